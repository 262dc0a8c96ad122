import PyProof.Rows.All
import Wide.All
import OpenK.AllK
import Wide.FinOn
import KE.KStateDown
import HandS.HeadHook4
import HandS.Head2
import HandS.HeadEnd
import HandS.Conv
import HandS.Replace
import KE.GoesEnum
import HandS.ForMost
import HandS.Exc
import HandS.Codes
import HandS.Zip
import HandS.IntHex
import HandS.StrMore
import HandS.IsInst
import HandS.Wide
import HandS.Flow
import HandS.FStr
import PyProof.Rows.StrIntSpec
import KE.GoesMore
import HandS.Ends
import HandS.Words
import HandS.Defaults
import PyProof.ReprRoads
import HandS.Walk
import HandS.More
import PyProof.ListStr
import HandS.Zip0
import HandS.Deep
import HandS.Style
import HandS.Text
import PyProof.Rows.StrCut
import HandS.ExcInit
import HandS.ExcField
import HandS.ExcIs
import HandS.Property
import KE.KExcIs
import HandS.Lambda
import HandS.EndTab
import HandS.RaiseMore
import HandS.DictComp
import PyProof.WalkInts
import HandS.TupLe
import HandS.Small
import HandS.ListItems
import HandS.TupAny
import HandS.MakeKw
import HandS.MakeKwOnly
import HandS.Set
import HandS.SetFor
import HandS.Strs
import PyProof.NsCount
import PyProof.Rows.SortShellAny
import KE.KDictZip
import KE.KItemsList
import KE.KUnpackStar
import PySem.Challenge.RW_worneven_k15_whole_sheets_and_page_texts
set_option Elab.async false
set_option linter.all false
set_option maxRecDepth 100000
set_option maxHeartbeats 4000000
namespace WM
def hx (d : Nat) : Nat := if d < 10 then 48 + d else 87 + d
def wo (c : Nat) : Nat := if c < 58 then c - 48 else c - 87
def IsCell (c : Nat) : Prop := (48 ≤ c ∧ c ≤ 57) ∨ (97 ≤ c ∧ c ≤ 102)
def lack (c : Nat) : Nat := 15 - wo c
def Cells (l : List Nat) : Prop := ∀ c ∈ l, IsCell c
theorem hx_cell {d : Nat} (h : d < 16) : IsCell (hx d) := by unfold IsCell hx; split <;> omega
theorem wo_lt {c : Nat} (h : IsCell c) : wo c < 16 := by unfold IsCell at h; unfold wo; split <;> omega
theorem wo_hx {d : Nat} (h : d < 16) : wo (hx d) = d := by
  unfold wo hx
  split <;> split <;> omega
theorem hx_wo {c : Nat} (h : IsCell c) : hx (wo c) = c := by
  unfold IsCell at h
  unfold wo hx
  split <;> split <;> omega
theorem lack_hx {d : Nat} (h : d < 16) : lack (hx d) = 15 - d := by unfold lack; rw [wo_hx h]
theorem lack_le (c : Nat) : lack c ≤ 15 := by unfold lack; omega
theorem hx_lack {c : Nat} (h : IsCell c) : hx (15 - lack c) = c := by
  have := wo_lt h
  unfold lack
  rw [show 15 - (15 - wo c) = wo c by omega, hx_wo h]
theorem wo_mono {a b : Nat} (ha : IsCell a) (hb : IsCell b) : wo a < wo b ↔ a < b := by
  unfold IsCell at ha hb
  unfold wo
  split <;> split <;> omega
theorem wo_inj {a b : Nat} (ha : IsCell a) (hb : IsCell b) (h : wo a = wo b) : a = b := by rw [← hx_wo ha, ← hx_wo hb, h]
theorem hx_mono {a b : Nat} (ha : a < 16) (hb : b < 16) : hx a < hx b ↔ a < b := by
  unfold hx
  split <;> split <;> omega
theorem lack_lt {a b : Nat} (ha : IsCell a) (hb : IsCell b) : lack a < lack b ↔ b < a := by
  rw [← wo_mono hb ha]
  have := wo_lt ha; have := wo_lt hb
  unfold lack; omega
theorem lack_inj {a b : Nat} (ha : IsCell a) (hb : IsCell b) (h : lack a = lack b) : a = b := by
  have := wo_lt ha; have := wo_lt hb
  refine wo_inj ha hb ?_
  unfold lack at h; omega
/-- the sum of what the cells lack, times their places from p on to the k -/
def S (k : Nat) : Nat → List Nat → Nat
  | _, [] => 0
  | p, c :: l => lack c * p ^ k + S k (p + 1) l
def figs : Nat → Nat → List Nat
  | 0, _ => []
  | k + 1, n => figs k (n / 16) ++ [hx (n % 16)]
theorem figs_len (k n : Nat) : (figs k n).length = k := by
  induction k generalizing n with
  | zero => rfl
  | succ k ih => simp [figs, ih]
theorem figs_cells (k n : Nat) : Cells (figs k n) := by
  induction k generalizing n with
  | zero => intro c h; simp [figs] at h
  | succ k ih =>
    intro c h
    simp only [figs, List.mem_append, List.mem_singleton] at h
    rcases h with h | h
    · exact ih _ c h
    · rw [h]; exact hx_cell (by omega)
def num (l : List Nat) : Nat := l.foldl (fun a c => a * 16 + wo c) 0
theorem num_figs (k n : Nat) (h : n < 16 ^ k) : num (figs k n) = n := by
  induction k generalizing n with
  | zero => simp [figs, num] at *; omega
  | succ k ih =>
    have e : num (figs (k + 1) n) = num (figs k (n / 16)) * 16 + wo (hx (n % 16)) := by
      unfold num; simp [figs, List.foldl_append]
    rw [e, ih (n / 16) (by rw [Nat.pow_succ] at h; omega), wo_hx (by omega)]
    omega
def flip (l : List Nat) : List Nat := l.map fun c => hx (lack c)
def twice (l : List Nat) : List Nat := l ++ flip l
theorem flip_len (l : List Nat) : (flip l).length = l.length := by simp [flip]
theorem flip_cells (l : List Nat) : Cells (flip l) := by
  intro c h
  simp only [flip, List.mem_map] at h
  obtain ⟨d, _, rfl⟩ := h
  exact hx_cell (by have := lack_le d; omega)
theorem twice_len (l : List Nat) : (twice l).length = 2 * l.length := by simp [twice, flip]; omega
def tail (h : List Nat) : List Nat := twice (figs 3 (S 0 1 h)) ++ twice (figs 5 (S 1 1 h)) ++ twice (figs 7 (S 2 1 h))
theorem tail_len (h : List Nat) : (tail h).length = 30 := by simp [tail, twice_len, figs_len]
def enc (t : List Nat) : List Nat := t.flatMap (figs 2)
theorem enc_len (t : List Nat) : (enc t).length = 2 * t.length := by
  induction t with
  | nil => rfl
  | cons a t ih => simp only [enc, List.flatMap_cons, List.length_append, figs_len, List.length_cons] at *; omega
def headOf (t : List Nat) : List Nat := enc t ++ List.replicate (226 - 2 * t.length) 102
def page (t : List Nat) : List Nat := headOf t ++ tail (headOf t)
def okc (c : Nat) : Prop := c = 10 ∨ (32 ≤ c ∧ c ≤ 126 ∧ c ≠ 37)
instance (c : Nat) : Decidable (okc c) := by unfold okc; infer_instance
structure IsText (t : List Nat) : Prop where
  ok : ∀ c ∈ t, okc c
  len : t.length ≤ 113
theorem head_len {t : List Nat} (h : t.length ≤ 113) : (headOf t).length = 226 := by simp [headOf, enc_len]; omega
theorem page_len {t : List Nat} (h : t.length ≤ 113) : (page t).length = 256 := by simp [page, tail_len, head_len h]
theorem enc_cells (t : List Nat) : Cells (enc t) := by
  intro c h
  simp only [enc, List.mem_flatMap] at h
  obtain ⟨a, _, h⟩ := h
  exact figs_cells _ _ c h
theorem cells_app {a b : List Nat} (ha : Cells a) (hb : Cells b) : Cells (a ++ b) := fun c h => (List.mem_append.mp h).elim (ha c) (hb c)
theorem rep_cells (n : Nat) : Cells (List.replicate n 102) := fun c h => by
  rw [List.eq_of_mem_replicate h]; exact .inr ⟨by omega, by omega⟩
theorem head_cells (t : List Nat) : Cells (headOf t) := cells_app (enc_cells t) (rep_cells _)
theorem twice_cells {l : List Nat} (h : Cells l) : Cells (twice l) := cells_app h (flip_cells l)
theorem tail_cells (h : List Nat) : Cells (tail h) := cells_app (cells_app (twice_cells (figs_cells _ _)) (twice_cells (figs_cells _ _))) (twice_cells (figs_cells _ _))
theorem page_cells (t : List Nat) : Cells (page t) := cells_app (head_cells t) (tail_cells _)
/-! bounds of the sums -/
theorem S_le (k : Nat) : ∀ (l : List Nat) (p b : Nat), p + l.length ≤ b + 1 → S k p l ≤ 15 * b ^ k * l.length := by
  intro l
  induction l with
  | nil => intro p b _; simp [S]
  | cons c l ih =>
    intro p b h
    simp only [List.length_cons] at h
    have h1 := ih (p + 1) b (by omega)
    have h2 : p ^ k ≤ b ^ k := Nat.pow_le_pow_left (by omega) k
    have h3 : lack c * p ^ k ≤ 15 * b ^ k := Nat.mul_le_mul (lack_le c) h2
    simp only [S, List.length_cons, Nat.mul_add, Nat.mul_one]
    omega
end WM
namespace WM
theorem S0_lt {l : List Nat} (h : l.length ≤ 226) : S 0 1 l < 16 ^ 3 := by
  have := S_le 0 l 1 226 (by omega)
  simp only [Nat.pow_zero, Nat.mul_one] at this
  omega
theorem S1_lt {l : List Nat} (h : l.length ≤ 226) : S 1 1 l < 16 ^ 5 := by
  have := S_le 1 l 1 226 (by omega)
  simp only [Nat.pow_one] at this
  omega
theorem S2_lt {l : List Nat} (h : l.length ≤ 226) : S 2 1 l < 16 ^ 7 := by
  have h1 := S_le 2 l 1 226 (by omega)
  have h2 : 15 * 226 ^ 2 * l.length ≤ 15 * 226 ^ 2 * 226 := Nat.mul_le_mul_left _ h
  omega
/-- a is greater than b at just these places of the list -/
def gr : List Nat → List Nat → Nat
  | a :: l, b :: m => (if b < a then 1 else 0) + gr l m
  | _, _ => 0
theorem gr_app {a b c d : List Nat} (h : a.length = c.length) : gr (a ++ b) (c ++ d) = gr a c + gr b d := by
  induction a generalizing c with
  | nil => cases c with
    | nil => simp [gr]
    | cons x c => simp at h
  | cons x a ih => cases c with
    | nil => simp at h
    | cons y c =>
      simp only [List.length_cons, Nat.add_right_cancel_iff] at h
      simp only [List.cons_append, gr, ih h]
      omega
/-- nowhere greater: the lacks are so -/
theorem gr0_le {a b : List Nat} (ha : Cells a) (hb : Cells b) (hl : a.length = b.length) (h : gr a b = 0) (k p : Nat) (hp : 1 ≤ p) : S k p b ≤ S k p a ∧ (S k p b = S k p a → a = b) := by
  induction a generalizing b p with
  | nil => cases b with
    | nil => simp
    | cons y b => simp at hl
  | cons x a ih => cases b with
    | nil => simp at hl
    | cons y b =>
      simp only [List.length_cons, Nat.add_right_cancel_iff] at hl
      have hx := ha x List.mem_cons_self
      have hy := hb y List.mem_cons_self
      simp only [gr] at h
      have hxy : ¬ y < x := by
        intro q
        rw [if_pos q] at h; omega
      have h0 : gr a b = 0 := by omega
      obtain ⟨i1, i2⟩ := ih (b := b) (fun c hc => ha c (List.mem_cons_of_mem _ hc)) (fun c hc => hb c (List.mem_cons_of_mem _ hc)) hl h0 (p + 1) (by omega)
      have l1 : lack y ≤ lack x := by
        rcases Nat.lt_or_ge (lack x) (lack y) with q | q
        · exact absurd ((lack_lt hx hy).mp q) hxy
        · exact q
      have l2 : lack y * p ^ k ≤ lack x * p ^ k := Nat.mul_le_mul_right _ l1
      simp only [S]
      refine ⟨by omega, fun e => ?_⟩
      have e1 : S k (p + 1) b = S k (p + 1) a := by omega
      have e2 : lack y * p ^ k = lack x * p ^ k := by omega
      have e3 : lack y = lack x := Nat.eq_of_mul_eq_mul_right (Nat.pow_pos hp) e2
      rw [i2 e1, lack_inj hx hy e3.symm]
theorem gr_flip {a b : List Nat} (ha : Cells a) (hb : Cells b) (hl : a.length = b.length) : gr (flip a) (flip b) = gr b a := by
  induction a generalizing b with
  | nil => cases b with
    | nil => simp [flip, gr]
    | cons y b => simp at hl
  | cons x a ih => cases b with
    | nil => simp at hl
    | cons y b =>
      simp only [List.length_cons, Nat.add_right_cancel_iff] at hl
      have hx := ha x List.mem_cons_self
      have hy := hb y List.mem_cons_self
      have i := ih (b := b) (fun c hc => ha c (List.mem_cons_of_mem _ hc)) (fun c hc => hb c (List.mem_cons_of_mem _ hc)) hl
      simp only [flip, List.map_cons, gr] at *
      rw [i]
      have e : (WM.hx (lack y) < WM.hx (lack x)) ↔ x < y := by
        rw [hx_mono (by have := lack_le y; omega) (by have := lack_le x; omega), lack_lt hy hx]
      simp only [e]
theorem gr_self (a : List Nat) : gr a a = 0 := by
  induction a with
  | nil => rfl
  | cons x a ih => simp [gr, ih]
/-- unlike lists of cells: one is greater somewhere -/
theorem gr_ne {a b : List Nat} (hl : a.length = b.length) (h : a ≠ b) : 1 ≤ gr a b + gr b a := by
  induction a generalizing b with
  | nil => cases b with
    | nil => exact absurd rfl h
    | cons y b => simp at hl
  | cons x a ih => cases b with
    | nil => simp at hl
    | cons y b =>
      simp only [List.length_cons, Nat.add_right_cancel_iff] at hl
      simp only [gr]
      by_cases e : x = y
      · subst e
        have := ih hl (fun q => h (by rw [q]))
        omega
      · rcases Nat.lt_or_ge x y with q | q
        · rw [if_pos q]; omega
        · rw [if_pos (show y < x by omega)]; omega
theorem gr_twice {a b : List Nat} (ha : Cells a) (hb : Cells b) (hl : a.length = b.length) (h : a ≠ b) : 1 ≤ gr (twice a) (twice b) := by
  unfold twice
  rw [gr_app hl, gr_flip ha hb hl]
  exact gr_ne hl h
/-- the weighted squares about k: what one greater cell would need -/
def V (k : Int) : Int → List Nat → List Nat → Int
  | p, a :: l, b :: m => ((lack a : Int) - lack b) * (p - k) * (p - k) + V k (p + 1) l m
  | _, _, _ => 0
theorem V_eq (k : Int) : ∀ (a b : List Nat) (p : Nat), a.length = b.length →
    V k p a b = ((S 2 p a : Int) - S 2 p b) - 2 * k * ((S 1 p a : Int) - S 1 p b) + k * k * ((S 0 p a : Int) - S 0 p b) := by
  intro a
  induction a with
  | nil => intro b p h; cases b with
    | nil => simp [V, S]
    | cons y b => simp at h
  | cons x a ih => intro b p h; cases b with
    | nil => simp at h
    | cons y b =>
      simp only [List.length_cons, Nat.add_right_cancel_iff] at h
      have i := ih b (p + 1) h
      simp only [V, S, Nat.pow_zero, Nat.pow_one, Nat.mul_one]
      have e : ((p + 1 : Nat) : Int) = (p : Int) + 1 := by omega
      rw [e] at i
      rw [i]
      push_cast
      rw [show ((p : Int)) ^ 2 = (p : Int) * p by rw [Int.pow_succ, Int.pow_succ, Int.pow_zero, Int.one_mul]]
      generalize (lack x : Int) = u
      generalize (lack y : Int) = v
      generalize (p : Int) = q
      generalize (S 2 (p + 1) a : Int) = s1
      generalize (S 2 (p + 1) b : Int) = s2
      generalize (S 1 (p + 1) a : Int) = s3
      generalize (S 1 (p + 1) b : Int) = s4
      generalize (S 0 (p + 1) a : Int) = s5
      generalize (S 0 (p + 1) b : Int) = s6
      grind
end WM
namespace WM
/-- one greater place at most: its place from p on, what the sum about it tells -/
theorem V_zero : ∀ (a b : List Nat) (p : Nat), Cells a → Cells b → a.length = b.length → gr a b ≤ 1 →
    gr a b = 0 ∨ ∃ k : Nat, p ≤ k ∧ (V k p a b = 0 → S 0 p a = S 0 p b → a = b) ∧ 0 ≤ V k p a b := by
  intro a
  induction a with
  | nil => intro b p _ _ hl h; left; cases b <;> simp_all [gr]
  | cons x a ih => intro b p ha hb hl h; cases b with
    | nil => simp at hl
    | cons y b =>
      simp only [List.length_cons, Nat.add_right_cancel_iff] at hl
      have hx := ha x List.mem_cons_self
      have hy := hb y List.mem_cons_self
      have ha' : Cells a := fun c hc => ha c (List.mem_cons_of_mem _ hc)
      have hb' : Cells b := fun c hc => hb c (List.mem_cons_of_mem _ hc)
      simp only [gr] at h ⊢
      by_cases q : y < x
      · -- the greater one is here: the rest is nowhere greater
        rw [if_pos q] at h ⊢
        have h0 : gr a b = 0 := by omega
        right
        have rest : ∀ (a b : List Nat) (r : Nat), Cells a → Cells b → a.length = b.length → gr a b = 0 → p < r → 0 ≤ V p r a b ∧ (V p r a b = 0 → a = b) := by
          intro a
          induction a with
          | nil => intro b r _ _ hl _ _; cases b <;> simp_all [V]
          | cons u a ih2 => intro b r ha hb hl h hr; cases b with
            | nil => simp at hl
            | cons v b =>
              simp only [List.length_cons, Nat.add_right_cancel_iff] at hl
              have hu := ha u List.mem_cons_self
              have hv := hb v List.mem_cons_self
              simp only [gr] at h
              have hvu : ¬ v < u := fun q => by rw [if_pos q] at h; omega
              have h0 : gr a b = 0 := by omega
              obtain ⟨j1, j2⟩ := ih2 b (r + 1) (fun c hc => ha c (List.mem_cons_of_mem _ hc)) (fun c hc => hb c (List.mem_cons_of_mem _ hc)) hl h0 (by omega)
              have l1 : lack v ≤ lack u := by
                rcases Nat.lt_or_ge (lack u) (lack v) with q | q
                · exact absurd ((lack_lt hu hv).mp q) hvu
                · exact q
              have e : ((r + 1 : Nat) : Int) = (r : Int) + 1 := by omega
              rw [e] at j1 j2
              simp only [V]
              have m1 : 0 < ((r : Int) - p) * (r - p) := Int.mul_pos (by omega) (by omega)
              have m2 : 0 ≤ ((lack u : Int) - lack v) * ((r : Int) - p) * (r - p) := by
                rw [Int.mul_assoc]
                exact Int.mul_nonneg (by omega) (by omega)
              refine ⟨by omega, fun z => ?_⟩
              have z1 : V p (r + 1) a b = 0 := by omega
              have z2 : ((lack u : Int) - lack v) * ((r : Int) - p) * (r - p) = 0 := by omega
              rw [Int.mul_assoc] at z2
              have z3 : (lack u : Int) - lack v = 0 := by
                rcases Int.mul_eq_zero.mp z2 with z | z
                · exact z
                · omega
              rw [j2 z1, lack_inj hu hv (by omega)]
        refine ⟨p, Nat.le_refl _, fun z zs => ?_, ?_⟩
        · obtain ⟨j1, j2⟩ := rest a b (p + 1) ha' hb' hl h0 (by omega)
          have e : ((p + 1 : Nat) : Int) = (p : Int) + 1 := by omega
          rw [e] at j1 j2
          simp only [V, Int.sub_self, Int.mul_zero, Int.zero_add] at z
          have e1 := j2 z
          subst e1
          simp only [S, Nat.pow_zero, Nat.mul_one] at zs
          rw [lack_inj hx hy (by omega)]
        · obtain ⟨j1, j2⟩ := rest a b (p + 1) ha' hb' hl h0 (by omega)
          have e : ((p + 1 : Nat) : Int) = (p : Int) + 1 := by omega
          rw [e] at j1
          simp only [V, Int.sub_self, Int.mul_zero, Int.zero_add]
          exact j1
      · rw [if_neg q] at h ⊢
        rw [Nat.zero_add] at h ⊢
        rcases ih b (p + 1) ha' hb' hl h with h0 | ⟨k, hk, h1, h2⟩
        · exact .inl h0
        · right
          have l1 : lack y ≤ lack x := by
            rcases Nat.lt_or_ge (lack x) (lack y) with q' | q'
            · exact absurd ((lack_lt hx hy).mp q') q
            · exact q'
          have e : ((p + 1 : Nat) : Int) = (p : Int) + 1 := by omega
          rw [e] at h1 h2
          have m1 : 0 < ((p : Int) - k) * (p - k) := Int.mul_pos_of_neg_of_neg (by omega) (by omega)
          have m2 : 0 ≤ ((lack x : Int) - lack y) * ((p : Int) - k) * (p - k) := by
            rw [Int.mul_assoc]
            exact Int.mul_nonneg (by omega) (by omega)
          refine ⟨k, by omega, fun z zs => ?_, ?_⟩
          · simp only [V] at z
            have z1 : V k (p + 1) a b = 0 := by omega
            have z2 : ((lack x : Int) - lack y) * ((p : Int) - k) * (p - k) = 0 := by omega
            rw [Int.mul_assoc] at z2
            have z3 : (lack x : Int) - lack y = 0 := by
              rcases Int.mul_eq_zero.mp z2 with z | z
              · exact z
              · omega
            simp only [S, Nat.pow_zero, Nat.mul_one] at zs
            have e2 : lack x = lack y := by omega
            rw [h1 z1 (by omega), lack_inj hx hy e2]
          · simp only [V]
            omega
theorem figs_inj {k n m : Nat} (hn : n < 16 ^ k) (hm : m < 16 ^ k) (h : figs k n = figs k m) : n = m := by
  rw [← num_figs k n hn, ← num_figs k m hm, h]
theorem S_bound (k : Nat) (hk : k = 0 ∨ k = 1 ∨ k = 2) {l : List Nat} (h : l.length ≤ 226) : S k 1 l < 16 ^ (3 + 2 * k) := by
  rcases hk with rfl | rfl | rfl
  · exact S0_lt h
  · exact S1_lt h
  · exact S2_lt h
/-- where a sum differs, one is greater in its tellings -/
theorem gr_tell {k n m : Nat} (hn : n < 16 ^ k) (hm : m < 16 ^ k) (h : n ≠ m) : 1 ≤ gr (twice (figs k n)) (twice (figs k m)) :=
  gr_twice (figs_cells _ _) (figs_cells _ _) (by rw [figs_len, figs_len]) fun e => h (figs_inj hn hm e)
theorem gr_tail (a b : List Nat) : gr (tail a) (tail b) = gr (twice (figs 3 (S 0 1 a))) (twice (figs 3 (S 0 1 b))) + gr (twice (figs 5 (S 1 1 a))) (twice (figs 5 (S 1 1 b))) + gr (twice (figs 7 (S 2 1 a))) (twice (figs 7 (S 2 1 b))) := by
  unfold tail
  rw [gr_app (by simp [twice_len, figs_len]), gr_app (by simp [twice_len, figs_len])]
/-- of two heads with their tails: one greater place at most, then they are alike -/
theorem alike {a b : List Nat} (ha : Cells a) (hb : Cells b) (la : a.length = 226) (lb : b.length = 226) (h : gr (a ++ tail a) (b ++ tail b) ≤ 1) : a = b := by
  rw [gr_app (by omega), gr_tail] at h
  have t0 : S 0 1 a ≠ S 0 1 b → 1 ≤ _ := fun q => gr_tell (S0_lt (by omega)) (S0_lt (by omega)) q
  have t1 : S 1 1 a ≠ S 1 1 b → 1 ≤ _ := fun q => gr_tell (S1_lt (by omega)) (S1_lt (by omega)) q
  have t2 : S 2 1 a ≠ S 2 1 b → 1 ≤ _ := fun q => gr_tell (S2_lt (by omega)) (S2_lt (by omega)) q
  by_cases hab : gr a b = 0
  · -- nowhere greater in the head: were it unlike, all three sums would be
    obtain ⟨_, i0⟩ := gr0_le ha hb (by omega) hab 0 1 (by omega)
    obtain ⟨_, i1⟩ := gr0_le ha hb (by omega) hab 1 1 (by omega)
    by_cases q0 : S 0 1 a = S 0 1 b
    · exact i0 q0.symm
    · by_cases q1 : S 1 1 a = S 1 1 b
      · exact i1 q1.symm
      · have := t0 q0; have := t1 q1; omega
  · have e0 : S 0 1 a = S 0 1 b := Decidable.byContradiction fun q => by have := t0 q; omega
    have e1 : S 1 1 a = S 1 1 b := Decidable.byContradiction fun q => by have := t1 q; omega
    have e2 : S 2 1 a = S 2 1 b := Decidable.byContradiction fun q => by have := t2 q; omega
    rcases V_zero a b 1 ha hb (by omega) (by omega) with q | ⟨k, _, h1, _⟩
    · exact absurd q hab
    · refine h1 ?_ e0
      have := V_eq k a b 1 (by omega)
      rw [e0, e1, e2] at this
      simpa using this
/-- of two sealed pages each one is greater at two cells at least -/
theorem page_two {t u : List Nat} (ht : IsText t) (hu : IsText u) (h : gr (page t) (page u) ≤ 1) : page t = page u := by
  unfold page at h ⊢
  have e := alike (head_cells t) (head_cells u) (head_len ht.len) (head_len hu.len) h
  rw [e]
end WM
namespace WM
def signOf (n : Nat) : Option Nat := if n = 10 then some 10 else if 32 ≤ n ∧ n ≤ 126 ∧ n ≠ 37 then some n else none
def textIn : List Nat → Option (List Nat)
  | a :: b :: r => if a = 102 ∧ b = 102 then some [] else
    match signOf (wo a * 16 + wo b) with
    | none => none
    | some s => (textIn r).map (s :: ·)
  | _ => some []
inductive Told where
  | empty | whole (t : List Nat) | mended (t : List Nat) (i : Nat) | torn
  deriving DecidableEq
/-- the places at which two lists differ, from p on -/
def unl : Nat → List Nat → List Nat → List Nat
  | p, a :: l, b :: m => if a = b then unl (p + 1) l m else p :: unl (p + 1) l m
  | _, _, _ => []
def toldBy (c r : List Nat) : Option Told :=
  match textIn (r.take 226) with
  | none => none
  | some t => if c = page t then some (.whole t) else
    match unl 0 c (page t) with
    | [i] => if c.getD i 0 < (page t).getD i 0 then some (.mended t i) else none
    | _ => none
def allf : List Nat := List.replicate 256 102
def cut (l : List Nat) (a b : Nat) : List Nat := (l.drop a).take (b - a)
def lift (c : List Nat) : List Nat :=
  let h := c.take 226
  let by_ : Int := (S 0 1 h : Int) - num (cut c 226 229)
  if by_ < 1 then c else
  let at_ : Int := ((S 1 1 h : Int) - num (cut c 232 237)) / by_ - 1
  if ¬ (0 ≤ at_ ∧ at_ < 226) then c else
  let lk : Int := (lack (c.getD at_.toNat 0) : Int) - by_
  if lk < 0 then c else c.take at_.toNat ++ [hx (15 - lk).toNat] ++ c.drop (at_.toNat + 1)
def opn (c : List Nat) : Told :=
  if c = allf then .empty else
  match toldBy c c with
  | some x => x
  | none => match toldBy c (lift c) with
    | some x => x
    | none => .torn
/-- what a told page is -/
inductive Rel (c : List Nat) : Told → Prop where
  | whole {t : List Nat} (ht : IsText t) (e : c = page t) : Rel c (.whole t)
  | mended {t : List Nat} {i d : Nat} (ht : IsText t) (hi : i < 256) (hd : IsCell d) (hl : d < (page t).getD i 0) (e : c = (page t).set i d) : Rel c (.mended t i)
/-! reading a text -/
theorem signOf_ok {n s : Nat} (h : signOf n = some s) : okc s ∧ s = n := by
  unfold signOf at h
  split at h
  · rename_i q; cases h; exact ⟨.inl rfl, q.symm⟩
  · split at h
    · rename_i q; cases h; exact ⟨.inr q, rfl⟩
    · cases h
theorem signOf_of {n : Nat} (h : okc n) : signOf n = some n := by
  unfold signOf
  rcases h with h | h
  · rw [if_pos h, h]
  · split
    · rename_i q; rw [q]
    · first | rfl | rw [if_pos h]
theorem textIn_ok : ∀ (n : Nat) (l : List Nat) (t : List Nat), l.length ≤ n → textIn l = some t → (∀ c ∈ t, okc c) ∧ 2 * t.length ≤ l.length := by
  intro n
  induction n using Nat.strongRecOn with
  | _ n ih =>
    intro l t hl h
    match l, h with
    | [], h => cases h; simp
    | [a], h => cases h; simp
    | a :: b :: r, h =>
      unfold textIn at h
      split at h
      · cases h; simp
      · split at h
        · cases h
        · rename_i s hs
          cases q : textIn r with
          | none => rw [q] at h; cases h
          | some u =>
            rw [q] at h
            cases h
            obtain ⟨i1, i2⟩ := ih (n - 2) (by simp only [List.length_cons] at hl; omega) r u (by simp only [List.length_cons] at hl; omega) q
            refine ⟨fun c hc => ?_, by simp only [List.length_cons]; omega⟩
            rcases List.mem_cons.mp hc with e | e
            · rw [e]; exact (signOf_ok hs).1
            · exact i1 c e
theorem okc_lt {c : Nat} (h : okc c) : c < 127 := by unfold okc at h; omega
theorem figs2 (c : Nat) : figs 2 c = [hx (c / 16 % 16), hx (c % 16)] := by simp [figs]
theorem textIn_enc : ∀ (t r : List Nat), (∀ c ∈ t, okc c) → textIn (enc t ++ r) = (textIn r).map (t ++ ·) := by
  intro t
  induction t with
  | nil => intro r _; simp [enc]
  | cons c t ih =>
    intro r h
    have hc := h c List.mem_cons_self
    have e : enc (c :: t) ++ r = hx (c / 16 % 16) :: hx (c % 16) :: (enc t ++ r) := by
      simp [enc, figs2]
    have hlt := okc_lt hc
    rw [e]
    have n1 : ¬ (hx (c / 16 % 16) = 102 ∧ hx (c % 16) = 102) := by
      rintro ⟨q, _⟩
      unfold hx at q
      split at q <;> omega
    rw [textIn, if_neg n1, wo_hx (by omega), wo_hx (by omega), show c / 16 % 16 * 16 + c % 16 = c by omega, signOf_of hc]
    simp only
    rw [ih r (fun d hd => h d (List.mem_cons_of_mem _ hd)), Option.map_map]
    rfl
theorem textIn_rep (n : Nat) : textIn (List.replicate (2 * n) 102) = some [] := by
  cases n with
  | zero => rfl
  | succ n =>
    rw [show 2 * (n + 1) = 2 * n + 2 by omega, List.replicate_succ, List.replicate_succ]
    unfold textIn
    simp
theorem textIn_head {t : List Nat} (h : IsText t) : textIn (headOf t) = some t := by
  unfold headOf
  have := h.len
  rw [textIn_enc _ _ h.ok, show 226 - 2 * t.length = 2 * (113 - t.length) by omega, textIn_rep]
  simp
theorem head_page {t : List Nat} (h : IsText t) : (page t).take 226 = headOf t := by
  unfold page
  rw [List.take_left' (head_len h.len)]
/-- what is read of a page's cells is its text -/
theorem page_inj {t u : List Nat} (ht : IsText t) (hu : IsText u) (h : page t = page u) : t = u := by
  have e := congrArg (fun l => textIn (l.take 226)) h
  simp only [head_page ht, head_page hu, textIn_head ht, textIn_head hu] at e
  exact Option.some.inj e
/-! the places that differ -/
theorem unl_self (p : Nat) (a : List Nat) : unl p a a = [] := by
  induction a generalizing p with
  | nil => rfl
  | cons x a ih => simp [unl, ih]
theorem unl_nil : ∀ (a b : List Nat) (p : Nat), a.length = b.length → unl p a b = [] → a = b := by
  intro a
  induction a with
  | nil => intro b p h _; cases b <;> simp_all
  | cons x a ih => intro b p h e; cases b with
    | nil => simp at h
    | cons y b =>
      simp only [List.length_cons, Nat.add_right_cancel_iff] at h
      unfold unl at e
      split at e
      · rename_i q; rw [q, ih b (p + 1) h e]
      · cases e
theorem unl_one : ∀ (a b : List Nat) (p i : Nat), a.length = b.length → unl p a b = [i] → p ≤ i ∧ i < p + b.length ∧ a = b.set (i - p) (a.getD (i - p) 0) := by
  intro a
  induction a with
  | nil => intro b p i h e; cases b <;> simp_all [unl]
  | cons x a ih => intro b p i h e; cases b with
    | nil => simp at h
    | cons y b =>
      simp only [List.length_cons, Nat.add_right_cancel_iff] at h
      unfold unl at e
      split at e
      · rename_i q
        obtain ⟨h1, h2, h3⟩ := ih b (p + 1) i h e
        refine ⟨by omega, by simp only [List.length_cons]; omega, ?_⟩
        have e2 : i - p = (i - (p + 1)) + 1 := by omega
        rw [e2, List.set_cons_succ, List.getD_cons_succ, q, ← h3]
      · have e1 : p = i := (List.cons.inj e).1
        have e2 : unl (p + 1) a b = [] := (List.cons.inj e).2
        subst e1
        refine ⟨Nat.le_refl _, by simp, ?_⟩
        simp [unl_nil a b (p + 1) h e2]
theorem unl_set : ∀ (b : List Nat) (p i d : Nat), i < b.length → d ≠ b.getD i 0 → unl p (b.set i d) b = [p + i] := by
  intro b
  induction b with
  | nil => intro p i d h _; simp at h
  | cons y b ih =>
    intro p i d h hd
    cases i with
    | zero =>
      simp only [List.getD_cons_zero] at hd
      simp only [List.set_cons_zero, unl, if_neg hd, unl_self, Nat.add_zero]
    | succ i =>
      simp only [List.getD_cons_succ] at hd
      simp only [List.set_cons_succ, unl, if_true]
      rw [ih (p + 1) i d (by simpa using h) hd]
      congr 1; omega
theorem gr_set : ∀ (b : List Nat) (i d : Nat), gr (b.set i d) b ≤ 1 ∧ gr b (b.set i d) ≤ 1 := by
  intro b
  induction b with
  | nil => intro i d; simp [gr]
  | cons y b ih =>
    intro i d
    cases i with
    | zero =>
      simp only [List.set_cons_zero, gr, gr_self]
      constructor <;> split <;> omega
    | succ i =>
      simp only [List.set_cons_succ, gr, Nat.lt_irrefl, if_false, Nat.zero_add]
      exact ih i d
theorem gr_le_of : ∀ (a b : List Nat), (∀ i, i < a.length → a.getD i 0 ≤ b.getD i 0) → gr a b = 0 := by
  intro a
  induction a with
  | nil => intro b _; simp [gr]
  | cons x a ih => intro b h; cases b with
    | nil => simp [gr]
    | cons y b =>
      have h0 := h 0 (by simp)
      simp only [List.getD_cons_zero] at h0
      have := ih b fun i hi => by
        have := h (i + 1) (by simp; omega)
        simpa using this
      simp only [gr, this]
      rw [if_neg (by omega)]
/-- of three: what b lacks of a, and c of b, at most together -/
theorem gr_tri : ∀ (a b c : List Nat), a.length = b.length → b.length = c.length → gr a c ≤ gr a b + gr b c := by
  intro a
  induction a with
  | nil => intro b c _ _; simp [gr]
  | cons x a ih => intro b c h1 h2; cases b with
    | nil => simp at h1
    | cons y b => cases c with
      | nil => simp at h2
      | cons z c =>
        simp only [List.length_cons, Nat.add_right_cancel_iff] at h1 h2
        have := ih b c h1 h2
        simp only [gr]
        by_cases q1 : y < x <;> by_cases q2 : z < y <;> by_cases q3 : z < x <;> simp only [q1, q2, q3, if_true, if_false] <;> omega
theorem set_cells {l : List Nat} {i d : Nat} (h : Cells l) (hd : IsCell d) : Cells (l.set i d) := fun c hc => by
  rcases List.mem_or_eq_of_mem_set hc with q | q
  · exact h c q
  · rw [q]; exact hd
end WM
namespace WM
theorem digit_hx {d : Nat} (h : d < 16) : (Nat.digitChar d).toNat = hx d := by
  match d, h with
  | 0, _ => rfl | 1, _ => rfl | 2, _ => rfl | 3, _ => rfl | 4, _ => rfl | 5, _ => rfl | 6, _ => rfl | 7, _ => rfl
  | 8, _ => rfl | 9, _ => rfl | 10, _ => rfl | 11, _ => rfl | 12, _ => rfl | 13, _ => rfl | 14, _ => rfl | 15, _ => rfl
  | d + 16, h => omega
theorem figs_zero (k : Nat) : figs k 0 = List.replicate k 48 := by
  induction k with
  | zero => rfl
  | succ k ih => rw [figs, Nat.zero_div, ih, List.replicate_succ']; rfl
theorem digs (k : Nat) : ∀ n, 1 ≤ k → n < 16 ^ k → (Nat.toDigits 16 n).length ≤ k ∧ List.replicate (k - (Nat.toDigits 16 n).length) 48 ++ (Nat.toDigits 16 n).map Char.toNat = figs k n := by
  induction k with
  | zero => intro n h; omega
  | succ k ih =>
    intro n _ h
    by_cases hn : n < 16
    · have e : Nat.toDigits 16 n = [Nat.digitChar n] := Nat.toDigits_of_lt_base hn
      rw [e]
      refine ⟨by simp, ?_⟩
      have e2 : n / 16 = 0 := by omega
      have e3 : n % 16 = n := by omega
      rw [figs, e2, e3, figs_zero]
      simp [digit_hx hn]
    · have e : Nat.toDigits 16 n = Nat.toDigits 16 (n / 16) ++ [Nat.digitChar (n % 16)] := Nat.toDigits_of_base_le (by omega) (by omega)
      have hk : 1 ≤ k := by
        rcases Nat.eq_zero_or_pos k with z | z
        · subst z; simp at h; omega
        · exact z
      have hlt : n / 16 < 16 ^ k := by rw [Nat.pow_succ] at h; omega
      obtain ⟨i1, i2⟩ := ih (n / 16) hk hlt
      rw [e]
      refine ⟨by simp; omega, ?_⟩
      rw [figs, ← i2]
      simp only [List.length_append, List.length_cons, List.length_nil, List.map_append, List.map_cons, List.map_nil, ← List.append_assoc, digit_hx (show n % 16 < 16 by omega)]
      congr 3
      omega
end WM
namespace WM
theorem page_ne_allf {t : List Nat} (h : t.length ≤ 113) : page t ≠ allf := by
  intro e
  have hh := head_len h
  have e2 : (page t).drop 226 = List.replicate 30 102 := by rw [e]; rfl
  unfold page at e2
  rw [List.drop_left' hh] at e2
  unfold tail twice at e2
  generalize S 0 1 (headOf t) = s at e2
  have ef : ∃ a b c, figs 3 s = [a, b, c] := ⟨_, _, _, rfl⟩
  obtain ⟨a, b, c, ef⟩ := ef
  rw [ef] at e2
  have e3 : a :: b :: c :: hx (lack a) :: hx (lack b) :: hx (lack c) :: (twice (figs 5 (S 1 1 (headOf t))) ++ twice (figs 7 (S 2 1 (headOf t)))) = 102 :: 102 :: 102 :: 102 :: List.replicate 26 102 := by
    simpa [flip, twice] using e2
  have h1 : a = 102 := (List.cons.inj e3).1
  have h2 : hx (lack a) = 102 := (List.cons.inj (List.cons.inj (List.cons.inj (List.cons.inj e3).2).2).2).1
  rw [h1] at h2
  exact absurd h2 (by decide)
theorem toldBy_page {t : List Nat} (h : IsText t) : toldBy (page t) (page t) = some (.whole t) := by
  unfold toldBy
  rw [head_page h, textIn_head h]
  exact if_pos rfl
theorem opn_page {t : List Nat} (h : IsText t) : opn (page t) = .whole t := by
  unfold opn
  rw [if_neg (page_ne_allf h.len), toldBy_page h]
theorem toldBy_rel {c r : List Nat} {x : Told} (hc : Cells c) (hl : c.length = 256) (hr : r.length = 256) (h : toldBy c r = some x) : Rel c x := by
  unfold toldBy at h
  cases ht : textIn (r.take 226) with
  | none => rw [ht] at h; exact nomatch h
  | some t =>
    rw [ht] at h
    have hT : IsText t := by
      obtain ⟨h1, h2⟩ := textIn_ok _ _ _ (Nat.le_refl _) ht
      simp only [List.length_take] at h2
      exact ⟨h1, by omega⟩
    have pl := page_len hT.len
    simp only at h
    by_cases q : c = page t
    · rw [if_pos q] at h
      rw [← Option.some.inj h]
      exact .whole hT q
    · rw [if_neg q] at h
      cases hu : unl 0 c (page t) with
      | nil => rw [hu] at h; exact nomatch h
      | cons i us => cases us with
        | cons j us => rw [hu] at h; exact nomatch h
        | nil =>
          rw [hu] at h
          simp only at h
          obtain ⟨_, h2, h3⟩ := unl_one c (page t) 0 i (by omega) hu
          by_cases q2 : c.getD i 0 < (page t).getD i 0
          · rw [if_pos q2] at h
            rw [← Option.some.inj h]
            rw [Nat.sub_zero] at h3
            refine .mended hT (by omega) ?_ q2 h3
            have hi : i < c.length := by omega
            rw [List.getD, List.getElem?_eq_getElem hi]
            exact hc _ (List.getElem_mem hi)
          · rw [if_neg q2] at h; exact nomatch h
/-- the page below q, and q below what it is told as: the same page -/
theorem rel_above {t q : List Nat} {x : Told} (ht : IsText t) (hl : q.length = 256) (hge : ∀ i, (page t).getD i 0 ≤ q.getD i 0) (hr : Rel q x) : q = page t := by
  cases hr with
  | whole hu e =>
    rename_i u
    have : page t = page u := page_two ht hu (by rw [gr_le_of _ _ fun i _ => by rw [← e]; exact hge i]; exact Nat.zero_le _)
    rw [e, this]
  | mended hu hi hd hlt e =>
    rename_i u i d
    have pu := page_len hu.len
    have pt := page_len ht.len
    have qle : ∀ j, q.getD j 0 ≤ (page u).getD j 0 := fun j => by
      rw [e]
      by_cases h : j = i
      · subst h
        have e1 : ((page u).set j d).getD j 0 = d := by rw [List.getD, List.getElem?_set_self (by omega)]; rfl
        rw [e1]; exact Nat.le_of_lt hlt
      · have e1 : ((page u).set i d).getD j 0 = (page u).getD j 0 := by rw [List.getD, List.getElem?_set_ne (Ne.symm h)]; rfl
        rw [e1]; exact Nat.le_refl _
    have ep : page t = page u := page_two ht hu (by rw [gr_le_of _ _ fun i _ => Nat.le_trans (hge i) (qle i)]; exact Nat.zero_le _)
    apply List.ext_getElem (by omega)
    intro j h1 h2
    have g := hge j
    have g2 := qle j
    rw [← ep] at g2
    have e1 : (page t).getD j 0 = (page t)[j] := by rw [List.getD, List.getElem?_eq_getElem h2]; rfl
    have e2 : q.getD j 0 = q[j] := by rw [List.getD, List.getElem?_eq_getElem h1]; rfl
    rw [e1, e2] at g g2
    omega
theorem lift_ok {l : List Nat} (hc : Cells l) (hl : l.length = 256) : Cells (lift l) ∧ (lift l).length = 256 := by
  unfold lift
  dsimp only
  split
  · exact ⟨hc, hl⟩
  · split
    · exact ⟨hc, hl⟩
    · split
      · exact ⟨hc, hl⟩
      · rename_i h1 h2 h3
        refine ⟨fun c h => ?_, by simp only [List.length_append, List.length_take, List.length_drop, List.length_cons, List.length_nil]; omega⟩
        rcases List.mem_append.mp h with h | h
        · rcases List.mem_append.mp h with h | h
          · exact hc c (List.mem_of_mem_take h)
          · rw [List.mem_singleton.mp h]; exact hx_cell (by omega)
        · exact hc c (List.mem_of_mem_drop h)
def due (t p q : List Nat) : Told := if q = p then .whole t else if q = allf then .empty else .torn
theorem opn_raised {t q : List Nat} (ht : IsText t) (hc : Cells q) (hl : q.length = 256) (hge : ∀ i, (page t).getD i 0 ≤ q.getD i 0) : opn q = due t (page t) q := by
  unfold due
  by_cases h1 : q = page t
  · rw [if_pos h1, h1, opn_page ht]
  · rw [if_neg h1]
    unfold opn
    by_cases h2 : q = allf
    · rw [if_pos h2, if_pos h2]
    · rw [if_neg h2, if_neg h2]
      have z : ∀ r, r.length = 256 → toldBy q r = none := fun r hr => by
        cases e : toldBy q r with
        | none => rfl
        | some x => exact absurd (rel_above ht hl hge (toldBy_rel hc hl hr e)) h1
      rw [z q hl, z (lift q) (lift_ok hc hl).2]
end WM
namespace WM
theorem cell_le {c : Nat} (h : IsCell c) : c ≤ 102 := by unfold IsCell at h; omega
theorem getD_cell {l : List Nat} {i : Nat} (h : Cells l) (hi : i < l.length) : IsCell (l.getD i 0) := by
  rw [List.getD, List.getElem?_eq_getElem hi]
  exact h _ (List.getElem_mem hi)
theorem getD_set_self {l : List Nat} {i d : Nat} (hi : i < l.length) : (l.set i d).getD i 0 = d := by
  rw [List.getD, List.getElem?_set_self hi]; rfl
theorem getD_set_ne {l : List Nat} {i j d : Nat} (h : i ≠ j) : (l.set i d).getD j 0 = l.getD j 0 := by
  rw [List.getD, List.getElem?_set_ne h]; rfl
/-- the text that a telling tells, and the place that fell -/
def Tells (c u : List Nat) (x : Told) : Prop := (x = .whole u ∧ c = page u) ∨ ∃ i, i < 256 ∧ x = .mended u i ∧ unl 0 c (page u) = [i] ∧ c.getD i 0 < (page u).getD i 0
theorem rel_tells {c : List Nat} {x : Told} (h : Rel c x) : ∃ u, IsText u ∧ gr c (page u) = 0 ∧ gr (page u) c ≤ 1 ∧ Tells c u x := by
  cases h with
  | whole hu e =>
    rename_i u
    refine ⟨u, hu, ?_, ?_, .inl ⟨rfl, e⟩⟩
    · rw [e]; exact gr_le_of _ _ fun i _ => Nat.le_refl _
    · rw [e, gr_le_of _ _ fun i _ => Nat.le_refl _]; exact Nat.zero_le _
  | mended hu hi hd hlt e =>
    rename_i u i d
    have pu := page_len hu.len
    refine ⟨u, hu, ?_, ?_, .inr ⟨i, hi, rfl, ?_, ?_⟩⟩
    · rw [e]
      refine gr_le_of _ _ fun j _ => ?_
      by_cases h : i = j
      · subst h; rw [getD_set_self (by omega)]; exact Nat.le_of_lt hlt
      · rw [getD_set_ne h]; exact Nat.le_refl _
    · rw [e]; exact (gr_set _ _ _).2
    · rw [e, unl_set _ _ _ _ (by omega) (Nat.ne_of_lt hlt), Nat.zero_add]
    · rw [e, getD_set_self (by omega)]; exact hlt
theorem tells_len {c u : List Nat} {x : Told} (hu : IsText u) (hr : Rel c x) : c.length = 256 := by
  cases hr with
  | whole h e => rw [e, page_len h.len]
  | mended h _ _ _ e => rw [e, List.length_set, page_len h.len]
/-- one telling of the cells at most -/
theorem rel_uniq {c : List Nat} {x y : Told} (hx : Rel c x) (hy : Rel c y) : x = y := by
  obtain ⟨u, hu, a1, a2, tu⟩ := rel_tells hx
  obtain ⟨v, hv, b1, b2, tv⟩ := rel_tells hy
  have hl := tells_len hu hx
  have pu := page_len hu.len
  have pv := page_len hv.len
  have e : page u = page v := page_two hu hv (Nat.le_trans (gr_tri _ c _ (by omega) (by omega)) (by omega))
  have euv := page_inj hu hv e
  subst euv
  rcases tu with ⟨rfl, e1⟩ | ⟨i, _, rfl, e1, _⟩ <;> rcases tv with ⟨rfl, e2⟩ | ⟨j, _, rfl, e2, _⟩
  · rfl
  · rw [e1, unl_self] at e2; exact nomatch e2
  · rw [e2, unl_self] at e1; exact nomatch e1
  · rw [e1] at e2; rw [(List.cons.inj e2).1]
theorem toldBy_tells {c r u : List Nat} {x : Told} (hr : textIn (r.take 226) = some u) (h : Tells c u x) : toldBy c r = some x := by
  unfold toldBy
  rw [hr]
  rcases h with ⟨rfl, e⟩ | ⟨i, _, rfl, e, hlt⟩
  · exact if_pos e
  · have ne : c ≠ page u := fun q => by rw [q, unl_self] at e; exact nomatch e
    show (if c = page u then _ else _) = _
    rw [if_neg ne, e]
    exact if_pos hlt
theorem S_set (k : Nat) : ∀ (l : List Nat) (p i d : Nat), i < l.length → S k p (l.set i d) + lack (l.getD i 0) * (p + i) ^ k = S k p l + lack d * (p + i) ^ k
  | [], _, _, _, h => nomatch h
  | c :: l, p, 0, d, _ => by
    show lack d * p ^ k + S k (p + 1) l + lack c * (p + 0) ^ k = lack c * p ^ k + S k (p + 1) l + lack d * (p + 0) ^ k
    simp only [Nat.add_zero]
    omega
  | c :: l, p, i + 1, d, h => by
    have ih := S_set k l (p + 1) i d (by simpa using h)
    have e : p + 1 + i = p + (i + 1) := by omega
    rw [e] at ih
    show lack c * p ^ k + S k (p + 1) (l.set i d) + lack (l.getD i 0) * (p + (i + 1)) ^ k = lack c * p ^ k + S k (p + 1) l + lack d * (p + (i + 1)) ^ k
    omega
theorem drop_set_lo (l : List Nat) (i d n : Nat) (h : i < n) : (l.set i d).drop n = l.drop n := by
  rw [List.drop_set]
  exact if_pos h
theorem page_drop {t : List Nat} (h : IsText t) : (page t).drop 226 = tail (headOf t) := by
  unfold page
  rw [List.drop_left' (head_len h.len)]
theorem cut_tail {t : List Nat} (h : IsText t) {i d : Nat} (hi : i < 226) (a b : Nat) (ha : 226 ≤ a) : cut ((page t).set i d) a b = ((tail (headOf t)).drop (a - 226)).take (b - a) := by
  unfold cut
  rw [drop_set_lo _ _ _ _ (by omega), ← page_drop h, List.drop_drop, show 226 + (a - 226) = a by omega]
theorem cut1 (h : List Nat) : ((tail h).drop 0).take 3 = figs 3 (S 0 1 h) := by
  unfold tail twice
  rw [List.drop_zero, List.append_assoc, List.append_assoc, List.take_left' (figs_len _ _)]
theorem cut1f (h : List Nat) : ((tail h).drop 3).take 3 = flip (figs 3 (S 0 1 h)) := by
  unfold tail twice
  rw [List.append_assoc, List.append_assoc, List.drop_left' (figs_len _ _), List.take_left' (by rw [flip_len, figs_len])]
theorem cut2 (h : List Nat) : ((tail h).drop 6).take 5 = figs 5 (S 1 1 h) := by
  unfold tail
  rw [List.append_assoc, List.drop_left' (by rw [twice_len, figs_len])]
  unfold twice
  rw [List.append_assoc, List.take_left' (figs_len _ _)]
theorem cut2f (h : List Nat) : ((tail h).drop 11).take 5 = flip (figs 5 (S 1 1 h)) := by
  unfold tail
  rw [List.append_assoc, show 11 = 6 + 5 by rfl, ← List.drop_drop, List.drop_left' (by rw [twice_len, figs_len])]
  unfold twice
  rw [List.append_assoc, List.drop_left' (figs_len _ _), List.take_left' (by rw [flip_len, figs_len])]
theorem take_set_hi (l : List Nat) (i d n : Nat) (h : i < n) : (l.set i d).take n = (l.take n).set i d := by
  rw [List.take_set]
theorem take_set_ge (l : List Nat) (i d n : Nat) (h : n ≤ i) : (l.set i d).take n = l.take n := by
  rw [List.take_set, List.set_eq_of_length_le (by rw [List.length_take]; omega)]
/-- the sums of a page's cells of which one fell -/
theorem fallen_sums {t : List Nat} (h : IsText t) {i d : Nat} (hi : i < 226) (hd : IsCell d) (hlt : d < (page t).getD i 0) :
    lack ((page t).getD i 0) < lack d ∧ lack d ≤ 15 ∧
    (S 0 1 (((page t).set i d).take 226) : Int) - (S 0 1 (headOf t) : Int) = (lack d : Int) - (lack ((page t).getD i 0) : Int) ∧
    (S 1 1 (((page t).set i d).take 226) : Int) - (S 1 1 (headOf t) : Int) = ((lack d : Int) - (lack ((page t).getD i 0) : Int)) * ((i : Int) + 1) := by
  have pl := page_len h.len
  have hh := head_len h.len
  have hc : IsCell ((page t).getD i 0) := getD_cell (page_cells t) (by omega)
  have e : ((page t).set i d).take 226 = (headOf t).set i d := by rw [take_set_hi _ _ _ _ hi, head_page h]
  have eg : (page t).getD i 0 = (headOf t).getD i 0 := by
    unfold page
    rw [List.getD, List.getElem?_append_left (by omega)]; rfl
  have s0 := S_set 0 (headOf t) 1 i d (by omega)
  have s1 := S_set 1 (headOf t) 1 i d (by omega)
  rw [Nat.pow_zero, Nat.mul_one, Nat.mul_one] at s0
  rw [Nat.pow_one] at s1
  refine ⟨(lack_lt hc hd).mpr hlt, lack_le d, ?_, ?_⟩
  · rw [e, eg]; omega
  · rw [e, eg, Int.sub_mul]
    have q : ((lack d : Nat) : Int) * ((i : Int) + 1) = ((lack d * (1 + i) : Nat) : Int) := by push_cast; rw [Int.add_comm]
    have q2 : ((lack ((headOf t).getD i 0) : Nat) : Int) * ((i : Int) + 1) = ((lack ((headOf t).getD i 0) * (1 + i) : Nat) : Int) := by push_cast; rw [Int.add_comm]
    rw [q, q2]
    omega
theorem set_back {l : List Nat} {i d c : Nat} (hi : i < l.length) (hc : l.getD i 0 = c) : (l.set i d).take i ++ [c] ++ (l.set i d).drop (i + 1) = l := by
  rw [take_set_ge _ _ _ _ (Nat.le_refl _), drop_set_lo _ _ _ _ (Nat.lt_succ_self _), ← hc, List.append_assoc]
  have e : [l.getD i 0] ++ l.drop (i + 1) = l.drop i := by
    rw [List.drop_eq_getElem_cons hi, List.getD, List.getElem?_eq_getElem hi]; rfl
  rw [e, List.take_append_drop]
theorem lift_fallen {t : List Nat} (h : IsText t) {i d : Nat} (hi : i < 226) (hd : IsCell d) (hlt : d < (page t).getD i 0) : lift ((page t).set i d) = page t := by
  have pl := page_len h.len
  have hh := head_len h.len
  have hc : IsCell ((page t).getD i 0) := getD_cell (page_cells t) (by omega)
  obtain ⟨h1, h2, h3, h4⟩ := fallen_sums h hi hd hlt
  have c1 : cut ((page t).set i d) 226 229 = figs 3 (S 0 1 (headOf t)) := by rw [cut_tail h hi _ _ (by omega)]; exact cut1 _
  have c2 : cut ((page t).set i d) 232 237 = figs 5 (S 1 1 (headOf t)) := by rw [cut_tail h hi _ _ (by omega)]; exact cut2 _
  unfold lift
  dsimp only
  rw [c1, c2, num_figs _ _ (S0_lt (by omega)), num_figs _ _ (S1_lt (by omega)), h3, h4]
  rw [if_neg (by omega)]
  have pos : (lack d : Int) - (lack ((page t).getD i 0) : Int) ≠ 0 := by omega
  rw [Int.mul_ediv_cancel_left _ pos]
  have ea : (i : Int) + 1 - 1 = (i : Int) := by omega
  rw [ea, if_neg (by omega), Int.toNat_natCast, getD_set_self (by omega)]
  have el : (lack d : Int) - ((lack d : Int) - (lack ((page t).getD i 0) : Int)) = (lack ((page t).getD i 0) : Int) := by omega
  rw [el, if_neg (by omega)]
  have et : ((15 : Int) - (lack ((page t).getD i 0) : Int)).toNat = 15 - lack ((page t).getD i 0) := by omega
  rw [et, hx_lack hc]
  exact set_back (by omega) rfl
theorem fallen_ne_allf {t : List Nat} (h : IsText t) {i d : Nat} (hi : i < 256) (hlt : d < (page t).getD i 0) : (page t).set i d ≠ allf := by
  intro e
  have pl := page_len h.len
  have e1 : ((page t).set i d).getD i 0 = d := getD_set_self (by omega)
  have e2 : allf.getD i 0 = 102 := by
    unfold allf
    rw [List.getD, List.getElem?_replicate, if_pos hi]; rfl
  rw [e, e2] at e1
  have := cell_le (getD_cell (page_cells t) (i := i) (by omega))
  omega
theorem rel_ne_allf {c : List Nat} {x : Told} (h : Rel c x) : c ≠ allf := by
  cases h with
  | whole hu e => rw [e]; exact page_ne_allf hu.len
  | mended hu hi hd hlt e => rw [e]; exact fallen_ne_allf hu hi hlt
/-- cells that are a page, or a page of which one cell fell, are told so -/
theorem opn_rel {c : List Nat} {x : Told} (hcc : Cells c) (h : Rel c x) : opn c = x := by
  have hl : c.length = 256 := by obtain ⟨u, hu, _⟩ := rel_tells h; exact tells_len hu h
  unfold opn
  rw [if_neg (rel_ne_allf h)]
  cases e : toldBy c c with
  | some y => exact rel_uniq (toldBy_rel hcc hl hl e) h
  | none =>
    have tt := h
    cases h with
    | whole hu ec =>
      rename_i u
      have : toldBy c c = some (.whole u) := by rw [ec]; exact toldBy_page hu
      rw [this] at e; exact nomatch e
    | mended hu hi hd hlt ec =>
      rename_i u i d
      have pl := page_len hu.len
      have tl : Tells c u (.mended u i) := .inr ⟨i, hi, rfl, by rw [ec, unl_set _ _ _ _ (by omega) (Nat.ne_of_lt hlt), Nat.zero_add], by rw [ec, getD_set_self (by omega)]; exact hlt⟩
      by_cases q : i < 226
      · have el : lift c = page u := by rw [ec]; exact lift_fallen hu q hd hlt
        have : toldBy c (lift c) = some (.mended u i) := toldBy_tells (by rw [el, head_page hu, textIn_head hu]) tl
        rw [this]
      · have : toldBy c c = some (.mended u i) := toldBy_tells (by rw [ec, take_set_ge _ _ _ _ (by omega), head_page hu, textIn_head hu]) tl
        rw [this] at e; exact nomatch e
theorem opn_is {c : List Nat} (hcc : Cells c) (hl : c.length = 256) : (c = allf ∧ opn c = .empty) ∨ (c ≠ allf ∧ (opn c = .torn ∨ Rel c (opn c))) := by
  by_cases h : c = allf
  · exact .inl ⟨h, if_pos h⟩
  · refine .inr ⟨h, ?_⟩
    have e : opn c = (match toldBy c c with
      | some x => x
      | none => match toldBy c (lift c) with
        | some x => x
        | none => .torn) := if_neg h
    cases e1 : toldBy c c with
    | some x => rw [e1] at e; rw [e]; exact .inr (toldBy_rel hcc hl hl e1)
    | none =>
      rw [e1] at e
      cases e2 : toldBy c (lift c) with
      | some x => rw [e2] at e; rw [e]; exact .inr (toldBy_rel hcc hl (lift_ok hcc hl).2 e2)
      | none => rw [e2] at e; exact .inl e
end WM
namespace WM
/-! the law's own reader -/
def lsg (h : List Nat) : List Nat := (List.range 113).map fun j => wo (h.getD (2 * j) 0) * 16 + wo (h.getD (2 * j + 1) 0)
def lmany (h : List Nat) : Nat := ((lsg h).filter fun n => decide (n ≠ 255)).length
def lone (n : Nat) : List Nat := if okc n then [n] else []
def ltx (h : List Nat) : List Nat := ((lsg h).take (lmany h)).flatMap lone
def ltext (h : List Nat) : Option (List Nat) := if (ltx h).length = lmany h ∧ h.drop (2 * lmany h) = List.replicate (226 - 2 * lmany h) 102 then some (ltx h) else none
theorem lsg_len (h : List Nat) : (lsg h).length = 113 := by simp [lsg]
theorem lmany_le (h : List Nat) : lmany h ≤ 113 := by
  unfold lmany
  exact Nat.le_trans (List.length_filter_le _ _) (by rw [lsg_len]; exact Nat.le_refl _)
theorem ltext_ok {h t : List Nat} (e : ltext h = some t) : IsText t := by
  unfold ltext at e
  split at e
  · rename_i q
    have e2 := Option.some.inj e
    refine ⟨fun c hc => ?_, ?_⟩
    · rw [← e2] at hc
      obtain ⟨n, _, hn⟩ := List.mem_flatMap.mp hc
      unfold lone at hn
      split at hn
      · rename_i ok
        rw [List.mem_singleton.mp hn]; exact ok
      · exact nomatch hn
    · rw [← e2, q.1]; exact lmany_le h
  · exact nomatch e
theorem enc_getD : ∀ (t r : List Nat) (j : Nat), j < t.length → (∀ c ∈ t, c < 256) → wo ((enc t ++ r).getD (2 * j) 0) * 16 + wo ((enc t ++ r).getD (2 * j + 1) 0) = t.getD j 0
  | [], _, _, h, _ => nomatch h
  | c :: t, r, 0, _, hc => by
    have h := hc c List.mem_cons_self
    show wo (hx (c / 16 % 16)) * 16 + wo (hx (c % 16)) = c
    rw [wo_hx (by omega), wo_hx (by omega)]
    omega
  | c :: t, r, j + 1, h, hc => by
    have ih := enc_getD t r j (by simpa using h) fun d hd => hc d (List.mem_cons_of_mem _ hd)
    have e : enc (c :: t) ++ r = hx (c / 16 % 16) :: hx (c % 16) :: (enc t ++ r) := by
      show figs 2 c ++ enc t ++ r = _
      rw [figs2]; rfl
    rw [e]
    exact ih
theorem lsg_head {t : List Nat} (h : IsText t) : lsg (headOf t) = t ++ List.replicate (113 - t.length) 255 := by
  have hl := h.len
  apply List.ext_getElem (by rw [lsg_len]; simp; omega)
  intro j h1 h2
  rw [lsg_len] at h1
  have e : (lsg (headOf t))[j]'(by rw [lsg_len]; exact h1) = wo ((headOf t).getD (2 * j) 0) * 16 + wo ((headOf t).getD (2 * j + 1) 0) := by simp only [lsg, List.getElem_map, List.getElem_range]
  rw [e]
  by_cases q : j < t.length
  · unfold headOf
    rw [enc_getD t _ j q fun c hc => by have := okc_lt (h.ok c hc); omega, List.getElem_append_left q, List.getD, List.getElem?_eq_getElem q]
    rfl
  · have e1 : ∀ k, 2 * t.length ≤ k → k < 226 → (headOf t).getD k 0 = 102 := fun k h1 h2 => by
      unfold headOf
      rw [List.getD, List.getElem?_append_right (by rw [enc_len]; exact h1), List.getElem?_replicate, if_pos (by rw [enc_len]; omega)]; rfl
    rw [e1 _ (by omega) (by omega), e1 _ (by omega) (by omega), List.getElem_append_right (by omega), List.getElem_replicate]
    rfl
theorem lmany_head {t : List Nat} (h : IsText t) : lmany (headOf t) = t.length := by
  unfold lmany
  rw [lsg_head h, List.filter_append]
  have e1 : t.filter (fun n => decide (n ≠ 255)) = t := List.filter_eq_self.mpr fun c hc => decide_eq_true (by have := okc_lt (h.ok c hc); omega)
  have e2 : (List.replicate (113 - t.length) 255).filter (fun n => decide (n ≠ 255)) = [] := by
    rw [List.filter_eq_nil_iff]
    intro c hc
    rw [List.eq_of_mem_replicate hc]; decide
  rw [e1, e2, List.append_nil]
theorem ltx_head {t : List Nat} (h : IsText t) : ltx (headOf t) = t := by
  unfold ltx
  rw [lmany_head h, lsg_head h, List.take_left' rfl]
  have : ∀ l : List Nat, (∀ c ∈ l, okc c) → l.flatMap lone = l := by
    intro l
    induction l with
    | nil => intro _; rfl
    | cons c l ih =>
      intro hk
      rw [List.flatMap_cons, ih fun d hd => hk d (List.mem_cons_of_mem _ hd)]
      unfold lone
      rw [if_pos (hk c List.mem_cons_self)]
      rfl
  exact this t h.ok
theorem ltext_head {t : List Nat} (h : IsText t) : ltext (headOf t) = some t := by
  unfold ltext
  rw [ltx_head h, lmany_head h]
  refine if_pos ⟨rfl, ?_⟩
  unfold headOf
  rw [List.drop_left' (enc_len t)]
def lfallen (c p : List Nat) : Option Nat := match unl 0 c p with
  | [i] => if c.getD i 0 < p.getD i 0 then some i else none
  | _ => none
def ltry (c head : List Nat) : Option Told := match ltext head with
  | none => none
  | some t => if page t = c then some (.whole t) else match lfallen c (page t) with
    | some i => some (.mended t i)
    | none => none
theorem ltry_rel {c head : List Nat} {x : Told} (hc : Cells c) (hl : c.length = 256) (e : ltry c head = some x) : Rel c x := by
  unfold ltry at e
  cases ht : ltext head with
  | none => rw [ht] at e; exact nomatch e
  | some t =>
    rw [ht] at e
    have hT := ltext_ok ht
    have pl := page_len hT.len
    simp only at e
    by_cases q : page t = c
    · rw [if_pos q] at e
      rw [← Option.some.inj e]
      exact .whole hT q.symm
    · rw [if_neg q] at e
      unfold lfallen at e
      cases hu : unl 0 c (page t) with
      | nil => rw [hu] at e; exact nomatch e
      | cons i us => cases us with
        | cons j us => rw [hu] at e; exact nomatch e
        | nil =>
          rw [hu] at e
          simp only at e
          obtain ⟨_, h2, h3⟩ := unl_one c (page t) 0 i (by omega) hu
          by_cases q2 : c.getD i 0 < (page t).getD i 0
          · rw [if_pos q2] at e
            rw [← Option.some.inj e]
            rw [Nat.sub_zero] at h3
            exact .mended hT (by omega) (getD_cell hc (by omega)) q2 h3
          · rw [if_neg q2] at e; exact nomatch e
theorem ltry_tells {c head u : List Nat} {x : Told} (hr : ltext head = some u) (h : Tells c u x) : ltry c head = some x := by
  unfold ltry
  rw [hr]
  rcases h with ⟨rfl, e⟩ | ⟨i, _, rfl, e, hlt⟩
  · exact if_pos e.symm
  · have ne : ¬ page u = c := fun q => by rw [← q, unl_self] at e; exact nomatch e
    have e2 : lfallen c (page u) = some i := by unfold lfallen; rw [e]; exact if_pos hlt
    show (if page u = c then _ else _) = _
    rw [if_neg ne, e2]
def llift (c : List Nat) : Option (List Nat) :=
  if cut c 229 232 = flip (cut c 226 229) ∧ cut c 237 242 = flip (cut c 232 237) then
    let by_ : Int := (S 0 1 (c.take 226) : Int) - num (cut c 226 229)
    if ¬ (1 ≤ by_ ∧ by_ ≤ 15) then none else
    let far : Int := (S 1 1 (c.take 226) : Int) - num (cut c 232 237)
    let at_ : Int := far / by_ - 1
    if ¬ (0 ≤ at_ ∧ at_ < 226) then none else
    if far ≠ by_ * (at_ + 1) then none else
    if 15 < (wo (c.getD at_.toNat 0) : Int) + by_ then none else
    some (c.take at_.toNat ++ [hx ((wo (c.getD at_.toNat 0) : Int) + by_).toNat] ++ c.drop (at_.toNat + 1))
  else none
theorem llift_ok {c r : List Nat} (hc : Cells c) (hl : c.length = 256) (e : llift c = some r) : Cells r ∧ r.length = 256 := by
  unfold llift at e
  split at e
  · dsimp only at e
    split at e
    · exact nomatch e
    · split at e
      · exact nomatch e
      · split at e
        · exact nomatch e
        · split at e
          · exact nomatch e
          · rename_i h1 h2 h3 h4
            rw [← Option.some.inj e]
            refine ⟨fun d h => ?_, by simp only [List.length_append, List.length_take, List.length_drop, List.length_cons, List.length_nil]; omega⟩
            rcases List.mem_append.mp h with h | h
            · rcases List.mem_append.mp h with h | h
              · exact hc d (List.mem_of_mem_take h)
              · rw [List.mem_singleton.mp h]; exact hx_cell (by omega)
            · exact hc d (List.mem_of_mem_drop h)
  · exact nomatch e
theorem llift_fallen {t : List Nat} (h : IsText t) {i d : Nat} (hi : i < 226) (hd : IsCell d) (hlt : d < (page t).getD i 0) : llift ((page t).set i d) = some (page t) := by
  have pl := page_len h.len
  have hh := head_len h.len
  have hc : IsCell ((page t).getD i 0) := getD_cell (page_cells t) (by omega)
  obtain ⟨h1, h2, h3, h4⟩ := fallen_sums h hi hd hlt
  have c1 : cut ((page t).set i d) 226 229 = figs 3 (S 0 1 (headOf t)) := by rw [cut_tail h hi _ _ (by omega)]; exact cut1 _
  have c2 : cut ((page t).set i d) 232 237 = figs 5 (S 1 1 (headOf t)) := by rw [cut_tail h hi _ _ (by omega)]; exact cut2 _
  have c3 : cut ((page t).set i d) 229 232 = flip (figs 3 (S 0 1 (headOf t))) := by rw [cut_tail h hi _ _ (by omega)]; exact cut1f _
  have c4 : cut ((page t).set i d) 237 242 = flip (figs 5 (S 1 1 (headOf t))) := by rw [cut_tail h hi _ _ (by omega)]; exact cut2f _
  unfold llift
  dsimp only
  rw [c1, c2, c3, c4, if_pos ⟨rfl, rfl⟩, num_figs _ _ (S0_lt (by omega)), num_figs _ _ (S1_lt (by omega)), h3, h4]
  rw [if_neg (by omega)]
  have pos : (lack d : Int) - (lack ((page t).getD i 0) : Int) ≠ 0 := by omega
  rw [Int.mul_ediv_cancel_left _ pos]
  have ea : (i : Int) + 1 - 1 = (i : Int) := by omega
  rw [ea, if_neg (by omega), if_neg (by simp), Int.toNat_natCast, getD_set_self (by omega)]
  have hw := wo_lt hd
  have hw2 := wo_lt hc
  have el : (wo d : Int) + ((lack d : Int) - (lack ((page t).getD i 0) : Int)) = (wo ((page t).getD i 0) : Int) := by unfold lack; omega
  rw [el, if_neg (by omega), Int.toNat_natCast, hx_wo hc]
  exact congrArg some (set_back (by omega) rfl)
theorem lopn_eq {c : List Nat} (hc : Cells c) (hl : c.length = 256) (hn : c ≠ allf) : opn c = match ltry c (c.take 226) with
    | some x => x
    | none => match llift c with
      | none => .torn
      | some r => match ltry c (r.take 226) with
        | some x => x
        | none => .torn := by
  cases e1 : ltry c (c.take 226) with
  | some x => exact opn_rel hc (ltry_rel hc hl e1)
  | none =>
    have key : ∀ x, Rel c x → ∃ r, llift c = some r ∧ ltry c (r.take 226) = some x := fun x hx => by
      cases hx with
      | whole hu ec =>
        rename_i u
        have : ltry c (c.take 226) = some (.whole u) := ltry_tells (by rw [ec, head_page hu, ltext_head hu]) (.inl ⟨rfl, ec⟩)
        rw [this] at e1; exact nomatch e1
      | mended hu hi hd hlt ec =>
        rename_i u i d
        have pl := page_len hu.len
        have tl : Tells c u (.mended u i) := .inr ⟨i, hi, rfl, by rw [ec, unl_set _ _ _ _ (by omega) (Nat.ne_of_lt hlt), Nat.zero_add], by rw [ec, getD_set_self (by omega)]; exact hlt⟩
        by_cases q : i < 226
        · exact ⟨page u, by rw [ec]; exact llift_fallen hu q hd hlt, ltry_tells (by rw [head_page hu, ltext_head hu]) tl⟩
        · have : ltry c (c.take 226) = some (.mended u i) := ltry_tells (by rw [ec, take_set_ge _ _ _ _ (by omega), head_page hu, ltext_head hu]) tl
          rw [this] at e1; exact nomatch e1
    rcases opn_is hc hl with ⟨h, _⟩ | ⟨_, h⟩
    · exact absurd h hn
    · cases e2 : llift c with
      | none =>
        rcases h with h | h
        · exact h
        · obtain ⟨r, q, _⟩ := key _ h
          rw [e2] at q; exact nomatch q
      | some r =>
        show opn c = match ltry c (r.take 226) with | some x => x | none => .torn
        cases e3 : ltry c (r.take 226) with
        | some x => exact opn_rel hc (ltry_rel hc hl e3)
        | none =>
          rcases h with h | h
          · exact h
          · obtain ⟨r2, q, q2⟩ := key _ h
            rw [e2] at q
            rw [← Option.some.inj q, e3] at q2
            exact nomatch q2
end WM
namespace WR
open PySem PySem.Spec PyProof.Rows L2
section
variable {X : Cx}
/-! a power of a wide base -/
def CPowW (i j : Int) : Prop := 0 ≤ j ∧ (Builtin.Int.intBits i : Int) * j ≤ 2 ^ 27
theorem op_powW : OpR X (binaryOp .Pow) (rI CPowW fun i j => .int (i ^ j.toNat)) := opI fun _ _ _ _ _ _ _ hc q => pow_int hc.1 hc.2 q
/-! a text n times -/
def rMulS : R2 := fun x y H Q => ∃ (z : Str) (n : Int), x = .str z ∧ y = .int n ∧ 0 ≤ n ∧ n ≤ 100000 ∧ z.length ≤ 100 ∧ Q (.str ⟨(List.replicate n.toNat z.cps).foldl (· ++ ·) #[]⟩) H
theorem op_mulS : OpR X (binaryOp .Mult) rMulS := by
  intro pins s σ H x y v u Q I rx ry h
  obtain ⟨z, n, rfl, rfl, h0, h1, hz, q⟩ := h
  obtain ⟨t, rfl⟩ := rx
  obtain ⟨t', rfl⟩ := ry
  have e1 : (decide (n < -(2 ^ 63 : Int)) || decide (n ≥ 2 ^ 63)) = false := by
    rw [decide_eq_false (by omega), decide_eq_false (by omega)]; rfl
  refine P.mul_str e1 (fun a b => ?_) (fun a b => ?_) ?_
  · have hn : 0 < n := by omega
    have : (z.length : Int) ≤ (2 ^ 63 - 1) / n := by
      refine (Int.le_ediv_iff_mul_le hn).mpr ?_
      have h2 : (z.length : Int) * n ≤ 100 * 100000 := Int.mul_le_mul (by omega) h1 h0 (by omega)
      omega
    omega
  · have h2 : z.length * n.toNat ≤ 100 * 100000 := Nat.mul_le_mul hz (by omega)
    exact decide_eq_false (by rw [sizeLine_eq]; omega)
  · by_cases c : n < 1
    · rw [if_pos c]
      have e : n = 0 := by omega
      subst e
      exact ⟨by decide, ⟨.str Str.empty, H, I.tok _, ⟨_, rfl⟩, q⟩⟩
    · rw [if_neg c]
      by_cases c2 : (n == 1 || z.length == 0) = true
      · rw [if_pos c2]
        refine ⟨.str z, H, I, ⟨_, rfl⟩, ?_⟩
        have e : (List.replicate n.toNat z.cps).foldl (· ++ ·) #[] = z.cps := by
          rw [Bool.or_eq_true] at c2
          rcases c2 with c2 | c2
          · have : n = 1 := eq_of_beq c2
            subst this
            simp [List.replicate]
          · have e0 : z.cps = #[] := by
              have := eq_of_beq c2
              exact Array.eq_empty_of_size_eq_zero this
            rw [e0]
            have : ∀ k : Nat, (List.replicate k (#[] : Array Nat)).foldl (· ++ ·) #[] = #[] := by
              intro k
              induction k with
              | zero => rfl
              | succ k ih => simpa [List.replicate_succ] using ih
            exact this _
        rw [e] at q
        exact q
      · rw [if_neg c2]
        refine ⟨?_, ⟨.str _, H, I.tok _, ⟨_, rfl⟩, q⟩⟩
        have len : ∀ (k : Nat) (a : Array Nat), ((List.replicate k z.cps).foldl (· ++ ·) a).size = a.size + k * z.cps.size := by
          intro k
          induction k with
          | zero => intro a; simp
          | succ k ih =>
            intro a
            rw [List.replicate_succ, List.foldl_cons, ih, Array.size_append, Nat.succ_mul]
            omega
        have h2 : n.toNat * z.cps.size ≤ 100000 * 100 := Nat.mul_le_mul (by omega) hz
        show ((List.replicate n.toNat z.cps).foldl (· ++ ·) #[]).size ≤ sizeLine
        rw [len, sizeLine_eq]
        simp only [List.size_toArray, List.length_nil, Nat.zero_add]
        omega
end
end WR
namespace WR
open PySem PySem.Spec PyProof.Rows L2
open Builtin Builtin.Int Builtin.Float
/-- the spec 0kx -/
def spX (k : Nat) : Str := ⟨#[48, 48 + k, 120]⟩
def fsX (k : Nat) : FormatSpec := { fill := 48, align := 61, width := some k, type := some 120 }
theorem parse2 : parseFormatSpec (spX 2).cps.toList "int" 62 = .ok (fsX 2) := by kernel_rfl
theorem parse3 : parseFormatSpec (spX 3).cps.toList "int" 62 = .ok (fsX 3) := by kernel_rfl
theorem parse5 : parseFormatSpec (spX 5).cps.toList "int" 62 = .ok (fsX 5) := by kernel_rfl
theorem parse7 : parseFormatSpec (spX 7).cps.toList "int" 62 = .ok (fsX 7) := by kernel_rfl
/-- the digits, filled up with noughts to k -/
def hexT (k n : Nat) : Str := ⟨(List.replicate (k - (Nat.toDigits 16 n).length) 48 ++ (Nat.toDigits 16 n).map Char.toNat).toArray⟩
theorem field_hex {k n : Nat} (hz : (Nat.toDigits 16 n).length ≤ k) : intField' (fsX k) (decide ((n : Int) < 0)) [] ((Nat.toDigits 16 n).map fun c => c.toNat) [] 4 = hexT k n := by
  have h0 : decide ((n : Int) < 0) = false := decide_eq_false (by omega)
  have h1 : ((Nat.toDigits 16 n).map fun c => c.toNat).isEmpty = false := by
    have := tDigits_len_ge 16 n
    cases q : Nat.toDigits 16 n with
    | nil => rw [q] at this; simp at this
    | cons a b => rfl
  unfold intField' hexT
  simp only [h0, h1, fsX, Bool.false_eq_true, if_false, List.length_nil, List.length_map, List.nil_append, List.append_nil]
  simp only [show ((48 : Nat) == 48 && (61 : Nat) == 61) = true from rfl, show ((61 : Nat) == 60) = false from rfl, show ((61 : Nat) == 94) = false from rfl, show ((61 : Nat) == 61) = true from rfl, if_true, Bool.false_eq_true, if_false]
  have e1 : (if ((48 : Nat) == 48 && true) = true then (k : Int) - (((0 : Nat) : Int) + ((0 : Nat) : Int) + ((0 : Nat) : Int)) else 0).toNat = k := by
    rw [if_pos (show ((48 : Nat) == 48 && true) = true from rfl)]; omega
  have e2 : ((k : Int) - (((0 : Nat) : Int) + ((0 : Nat) : Int) + ((0 : Nat) : Int)) - ((List.replicate (k - (Nat.toDigits 16 n).length) 48 ++ (Nat.toDigits 16 n).map fun c : Char => c.toNat).length : Int)).toNat = 0 := by
    simp only [List.length_append, List.length_replicate, List.length_map]
    omega
  rw [e1, e2]
  simp only [List.replicate_zero, List.nil_append, List.append_nil]
theorem retStr_to {M : Model} {A : Around} {E : Value → Shared → Prop} {s : Shared} {x y : Str} {Q : Fin → Shared → Prop} (e : x = y) (h : wpAny M A (retStr y) Q E s) : wpAny M A (retStr x) Q E s := e ▸ h
section
variable {prog : Program} {w : World} {A : Around} {E : Value → Shared → Prop} {s : Shared}
theorem fmt_hex {n k : Nat} {t : Tok} {Q : Value → Shared → Prop} (hp : parseFormatSpec (spX k).cps.toList "int" 62 = .ok (fsX k)) (hk : 1 ≤ k) (hk9 : k ≤ 9) (hz : (Nat.toDigits 16 n).length ≤ k)
    (hq : Q (.str (hexT k n) (s.toks + 1)) { s with toks := s.toks + 1 + 1 }) : wpAny (model prog w) A (formatField (.int (n : Int) t) (spX k)) Q E s := by
  have hne : ((spX k).length == 0) = false := rfl
  have hasc : (((spX k).cps.toList.drop 1).any (· ≥ 128) || (decide ((spX k).cps.getD 0 0 ≥ 128) && !([60, 62, 61, 94] : List Nat).contains ((spX k).cps.getD 1 0))) = false := by
    have e1 : ((spX k).cps.toList.drop 1).any (· ≥ 128) = false := by
      show (([48 + k, 120] : List Nat).any (· ≥ 128)) = false
      simp
      omega
    rw [e1]; rfl
  have e : formatField (.int (n : Int) t) (spX k) = holding [.int (n : Int) t] (pyFormat (.int (n : Int) t) (spX k)) := by
    unfold formatField
    simp only [hne, Bool.false_eq_true, if_false]
  rw [e]
  unfold pyFormat
  refine wpAny_holding (wpAny_bind (wpAny_mkStr (wpAny_bind (m := callSpecial? (.int (n : Int) t) (Str.ofString "__format__") [.str (spX k) s.toks]) ?_) (by show 3 ≤ sizeLine; decide)))
  refine wpAny_callSpecial?_slot (name := Str.ofString "__format__") (typeIs_int _ _ t) slot_int_format (wpAny_call (codeAny_call_builtin slot_int_format.plain entry_int_format (slot_int_format.check _ _ _ _ _ _ _ _ (typeIs_int _ _ t) (args_int_format _ _) ?_)))
  unfold Builtin.«int.__format__»
  simp only [selfAndOne, noKeywords, Int.intOfSelf, asInt?, asStr?, List.isEmpty_nil, if_true, pure_bind, bind_pure, bind_assoc, hne, hasc, Bool.false_eq_true, if_false, show (Value.str (spX k) s.toks == Value.none) = false from rfl]
  refine wpAny_bind (wpAny_typeNameOf (T := "str") (typeIs_str _ _ _) (by decide) fun _ => wpAny_bind (wpAny_typeNameOfCut_int ?_))
  simp only [hp]
  have ht : ∀ d, (fsX k).type.getD d = 120 := fun _ => rfl
  simp only [ht]
  rw [if_pos (by decide)]
  show wpAny _ _ (if _ then _ else _) _ _ _
  have hw : ¬ (fsX k).width.getD 0 > 100000 := by
    show ¬ k > 100000
    omega
  rw [if_neg hw]
  refine retStr_to (y := hexT k n) ?_ ?_
  · show intField' (fsX k) (decide ((n : Int) < 0)) [] ((Nat.toDigits 16 n).map fun c => c.toNat) [] 4 = hexT k n
    exact field_hex hz
  · unfold retStr
    refine wpAny_bind (wpAny_mkStr (wpAny_pure ?_) ?_)
    · exact wpAny_bind (wpAny_isInstance (T := "str") (b := true) rfl isSubtype_str_str (wpAny_pure hq))
    · show (hexT k n).length ≤ sizeLine
      unfold hexT
      show (List.replicate (k - (Nat.toDigits 16 n).length) 48 ++ (Nat.toDigits 16 n).map Char.toNat).toArray.size ≤ sizeLine
      simp only [List.size_toArray, List.length_append, List.length_replicate, List.length_map]
      rw [sizeLine_eq]
      omega
end
section
variable {X : Cx}
/-- {e:0kx}, e an int from 0 on of at most k digits -/
def tFmtX (k : Nat) (te : TE) : TE := fun σ H Q => te σ H fun x H1 => ∃ n : Nat, x = .int (n : Int) ∧ (Nat.toDigits 16 n).length ≤ k ∧ Q (.str (hexT k n)) H1
theorem pe_fmtX {k : Nat} {e : Expr} {te : TE} {p1 p2 p3 : Pos} {kk : Nat} {sp : Str} (hk : k = 2 ∨ k = 3 ∨ k = 5 ∨ k = 7) (hs : sp = spX k) (he : PE X e te) :
    PE X (.FormattedValue e (-1) (some (.JoinedStr [.Constant (.str sp) kk p1] p2)) p3) (tFmtX k te) := by
  refine ⟨fun pins s σ H Q I h => ?_⟩
  refine wpAny_FormattedValue_spec (thn (he.run pins s σ H _ I h) fun v s1 hv => ?_)
  obtain ⟨x, H1, I1, r1, n, rfl, hz, q⟩ := hv
  obtain ⟨t, rfl⟩ := r1
  refine wpAny_JoinedStr_one ?_
  have hp : parseFormatSpec (spX k).cps.toList "int" 62 = .ok (fsX k) := by
    rcases hk with rfl | rfl | rfl | rfl
    · exact parse2
    · exact parse3
    · exact parse5
    · exact parse7
  refine thn ((pe_str (X := X) (x := sp)).run pins s1 σ H1 (fun v H' => v = .str sp ∧ H' = H1) I1 ⟨rfl, rfl⟩) fun u s2 hu => ?_
  obtain ⟨y, H2, I2, r2, e2, e3⟩ := hu
  subst e2 e3
  obtain ⟨t2, rfl⟩ := r2
  refine ⟨sp, t2, rfl, ?_⟩
  subst hs
  exact fmt_hex hp (by omega) (by omega) hz ⟨.str _, _, I2.tok _, ⟨_, rfl⟩, q⟩
end
end WR
namespace WR
open PySem PySem.Spec PyProof.Rows L2
/-! ### enumerate(text), enumerate(text, k) -/
/-- the signs of x, each with its number from k on in a new pair -/
def IteS (k : Int) (x : Str) : It := ⟨fun i _ => i < x.cps.size, fun i H v H' => ∃ T c, v = .ref T ∧ H T = none ∧ H' = upd H T (.tup [.int (k + (i : Nat)), .str ⟨#[c]⟩]) ∧ x.cps[i]? = some c, fun i _ => i = x.cps.size⟩
theorem turn_enumS {P : Program} {w : World} {K : PySem.W.Frag} {elts : List Expr} {kk : Nat} {tpos : Pos} (k : Int) (x : Str) (t : Tok) (e it : Addr) (hne : e ≠ it) :
    Turn P w K (.Tuple elts kk tpos) (IteS k x) [e, it] e (fun i h => (∃ old, IsEnum h e it (k + (i : Nat)) old) ∧ h.IsStrIter it (strIterType x) x t i) where
  mem := by simp
  obj := fun i h st b hb => by
    obtain ⟨⟨old, he⟩, ⟨o, ho, hc, hd⟩⟩ := st
    have hb2 : b = e ∨ b = it := by simpa using hb
    rcases hb2 with z | z
    · rw [z]; exact ⟨_, he, fun v q => nomatch q⟩
    · rw [z]; exact ⟨o, ho, fun v q => by rw [hd] at q; cases q⟩
  keep := fun i h h' st kp => by
    obtain ⟨⟨old, he⟩, ⟨o, ho, r⟩⟩ := st
    exact ⟨⟨old, kp e (by simp) _ he⟩, ⟨o, kp it (by simp) o ho, r⟩⟩
  item := by
    intro X hP hw hK hc i pins s σ H E I hf st hg
    subst hP hw hK
    obtain ⟨⟨old, he⟩, hit⟩ := st
    have hh : X.A.in1.handled = none := I.ok.hd hc
    have D := Draws.text (prog := X.prog) (w := X.w) hh it x t
    have hel : e < s.heap.objs.size := Heap.lt_size he
    have hil : it < s.heap.objs.size := let ⟨_, q, _⟩ := hit; Heap.lt_size q
    refine wpAny_pyNext_enum_itemC D he hit hg hne (by simpa using hne) fun y h1 tk hP ho hit1 hT hsz hk => ?_
    obtain ⟨c, u, hcx, rfl⟩ := hP
    refine ⟨_, rfl, wpAny_letOwnedTupleGo_enum (s := { s with heap := h1, toks := tk + 1 }) ho fun h2 he2 sb => ?_⟩
    have hT2 : h2.get? s.heap.objs.size = some { cls := .type "tuple", data := .seq #[.int (k + (i : Nat)) tk, .str ⟨#[c]⟩ u] } := (sb.2 _ (Nat.ne_of_gt hel)).trans hT
    have ob : ObjOk X.prog X.w (upd H s.heap.objs.size (.tup [.int (k + (i : Nat)), .str ⟨#[c]⟩])) h2 s.heap.objs.size (.tup [.int (k + (i : Nat)), .str ⟨#[c]⟩]) :=
      ⟨by show 2 ≤ sizeLine; decide, [.int (k + (i : Nat)) tk, .str ⟨#[c]⟩ u], .cons ⟨_, rfl⟩ (.cons ⟨_, rfl⟩ .nil), ⟨_, hT2, rfl, _, rfl⟩⟩
    have J : Inv X pins σ (upd H s.heap.objs.size (.tup [.int (k + (i : Nat)), .str ⟨#[c]⟩])) { s with heap := h2, toks := tk + 1 } :=
      I.turnedNew (ch := [e, it]) (fun b o hb q => (sb.2 b fun z => hb (by simp [z])).trans (hk b o (fun z => hb (by simp [z])) (fun z => hb (by simp [z])) q)) hf (Nat.le_refl _) ob
    refine ⟨.ref s.heap.objs.size, _, J, rfl, ⟨_, c, rfl, I.hok.fresh (Nat.le_refl _), rfl, hcx⟩, ⟨⟨.str ⟨#[c]⟩ u, ?_⟩, ?_⟩, fun b hb => ?_⟩
    · have e1 : k + ((i + 1 : Nat) : Int) = k + (i : Nat) + 1 := by omega
      rw [e1]
      exact he2
    · obtain ⟨o, ho', r⟩ := hit1
      exact ⟨o, (sb.2 it (Ne.symm hne)).trans ho', r⟩
    · have hb2 : b < s.heap.objs.size := by
        have hb3 : b = e ∨ b = it := by simpa using hb
        rcases hb3 with z | z
        · rw [z]; exact hel
        · rw [z]; exact hil
      rw [upd_ne (Nat.ne_of_lt hb2)]
      exact (hf b hb).1
  done := by
    intro X hP hw hK hc i pins s σ H E I hf st hg
    subst hP hw hK
    obtain ⟨⟨old, he⟩, hit⟩ := st
    have hh : X.A.in1.handled = none := I.ok.hd hc
    have D := Draws.text (prog := X.prog) (w := X.w) hh it x t
    obtain ⟨f0, f1, f2, f3, f4, f5⟩ := hf it (by simp)
    have hg' : i = x.cps.size := hg
    subst hg'
    exact wpAny_pyNext_enum_endD D he hit fun h1 eb => ⟨rfl, I.turned (t' := s.toks) (fun b o hb q => eb b o hb q) f0 f1 f3 f4 f5⟩
  self := fun A i s Q E st h => let ⟨⟨_, he⟩, _⟩ := st; wpAny_pyIter_enum he h
section
variable {X : Cx}
theorem enumS_pi {x : Str} {t : Tok} {k : Int} {tg : Expr} {elts : List Expr} {kk : Nat} {tpos : Pos} {pins : List (Addr × Obj)} {σ : L2.St} {H : Hp} {s : Shared} {h' : Heap} {R : It → Hp → Prop} (I : Inv X pins σ H s)
    (he : IsEnum h' (s.heap.objs.size + 1) s.heap.objs.size k .none) (hi : h'.IsStrIter s.heap.objs.size (strIterType x) x t 0) (kp : ∀ b o, s.heap.get? b = some o → h'.get? b = some o) (q : R (IteS k x) H) :
    PIE X pins σ (.Tuple elts kk tpos) R (.ref (s.heap.objs.size + 1)) { s with heap := h' } := by
  refine ⟨s.heap.objs.size + 1, [s.heap.objs.size + 1, s.heap.objs.size], _, _, H, rfl, I.kept (t' := s.toks) kp, turn_enumS k x t _ _ (Nat.succ_ne_self _), ⟨⟨.none, ?_⟩, hi⟩, fun b hb => ?_, q⟩
  · have e1 : k + ((0 : Nat) : Int) = k := by omega
    rw [e1]
    exact he
  · have hb2 : b = s.heap.objs.size + 1 ∨ b = s.heap.objs.size := by simpa using hb
    have hle : s.heap.objs.size ≤ b := by
      rcases hb2 with z | z
      · rw [z]; exact Nat.le_succ _
      · rw [z]; exact Nat.le_refl _
    exact I.fpOk hle (I.hok.fresh hle)
def iEnumS (ta : TA) : TI := fun σ H R => ta σ H fun vs H1 => ∃ x, vs = [.str x] ∧ R (IteS 0 x) H1
theorem pi_enumS {e : Expr} {ta : TA} {p pos tpos : Pos} {elts : List Expr} {kk : Nat} (hg : Gl X "enumerate") (hm : X.mg "enumerate" = none) (ha : PA X [e] ta) (hs : starEach [e] X.env = [(false, eval e X.env)] := by rfl) :
    PI X (.Tuple elts kk tpos) (.Call (.Name "enumerate" p) [e] [] pos) (iEnumS ta) := by
  refine ⟨fun pins s σ H R I h => Call_ (ld_blt I hg hm boot_enumerate (PyProof.Rows.callWith_type1 (thn (ha.run pos pins s σ H _ I h) fun us s1 ⟨vs, H1, I1, r1, x, ex, q⟩ => ?_) hs rfl))⟩
  subst ex
  cases r1 with
  | cons r rr =>
    cases rr
    obtain ⟨t, rfl⟩ := r
    exact call_enumerate_str fun h' he hi _ kp => wpAny_pyIter_enum he (enumS_pi (tg := .Tuple elts kk tpos) I1 he hi kp q)
def iEnumS2 (ta : TA) : TI := fun σ H R => ta σ H fun vs H1 => ∃ x k, vs = [.str x, .int k] ∧ -(2 ^ 62) ≤ k ∧ k < 2 ^ 62 ∧ R (IteS k x) H1
theorem pi_enumS2 {a b : Expr} {ta : TA} {p pos tpos : Pos} {elts : List Expr} {kk : Nat} (hg : Gl X "enumerate") (hm : X.mg "enumerate" = none) (ha : PA X [a, b] ta)
    (hs : starEach [a, b] X.env = [(false, eval a X.env), (false, eval b X.env)] := by rfl) (hs2 : starEach [b] X.env = [(false, eval b X.env)] := by rfl) :
    PI X (.Tuple elts kk tpos) (.Call (.Name "enumerate" p) [a, b] [] pos) (iEnumS2 ta) := by
  refine ⟨fun pins s σ H R I h => Call_ (ld_blt I hg hm boot_enumerate (PyProof.Rows.callWith_type1 (thn (ha.run pos pins s σ H _ I h) fun us s1 ⟨vs, H1, I1, r1, x, k, ex, h0, h1, q⟩ => ?_) (by rw [hs, hs2]) (by rw [hs2]; rfl)))⟩
  subst ex
  cases r1 with
  | cons r rr =>
    cases rr with
    | cons r' rr =>
      cases rr
      obtain ⟨t, rfl⟩ := r
      obtain ⟨t', rfl⟩ := r'
      refine enum_begins (begins_text x t) trivial (by omega) (by omega) fun h' he ho _ kp => wpAny_pyIter_enum he (enumS_pi (x := x) (t := t) (tg := .Tuple elts kk tpos) I1 he ?_ kp q)
      exact ⟨_, ho, rfl, rfl⟩
end
end WR
namespace WR
open PySem PySem.Spec PyProof.Rows L2
/-! ### defs called where no repr is under way -/
def NoG (A : Around) : Prop := A.guards = some []
structure FnG (P : Program) (w : World) (K : PySem.W.Frag) (mg : Str → Option Value) (base : Heap) (CX : CXT) (k : Nat) (f : Addr) (fd : FuncData) (ps : List Str) (sp : Sp) : Prop where
  len : ∀ vs H Q E, sp vs H Q E → vs.length = ps.length
  go : ∀ (A : Around) (outer : List Env) (s : Shared) (H : Hp) (args : Args) (us : List Value) (vs : List V) (Q : VK) (E : XK), NoG A → Room k A → Env0 P w K mg base A outer s H → BindsTo s fd args (ps.zip us) → Vals vs us → sp vs H Q E →
    codeAny (model P w) A (.call (.ref f) args) (CR CX outer P w H s Q E) s
theorem FnG.of {P : Program} {w : World} {K : PySem.W.Frag} {mg : Str → Option Value} {base : Heap} {CX : CXT} {k : Nat} {f : Addr} {fd : FuncData} {ps : List Str} {sp : Sp} (F : FnOk P w K mg base CX k f fd ps sp) : FnG P w K mg base CX k f fd ps sp :=
  ⟨F.len, fun A outer s H args us vs Q E _ => F.run A outer s H args us vs Q E⟩
/-- a def by its body, the body walked where no repr is under way -/
theorem fnG_of {CX : CXT} {P : Program} {w : World} {K : PySem.W.Frag} {mg : Str → Option Value} {base : Heap} {k : Nat} {f : Addr} {nm qu : Str} {pa : Arguments} {bd : List Stmt} {sc : Scope} {dV kV dc pm cdv ct oc : Value} {an od : Option Addr}
    {sl : Array (Option Value)} {N ps : List Str} {sp : Sp} (lk : K.lookup f = some ⟨oc, od, .func (PySem.W.fnOf nm qu pa bd sc dV kV dc pm an cdv ct), sl⟩) (hcd : PySem.W.codeIn K cdv qu = true) (S : FnScope N ps sc)
    (len : ∀ vs H Q E, sp vs H Q E → vs.length = ps.length)
    (hb : ∀ (A : Around) (outer : List Env) (s : Shared) (H : Hp) (vs : List V) (Q : VK) (E : XK), NoG (A.deeper (envOfC qu sc s.heap.objs.size f cdv)) → Room k (A.deeper (envOfC qu sc s.heap.objs.size f cdv)) → sp vs H Q E →
      ∃ t, PSs (cxOf CX P w K mg base N qu sc f cdv A outer s H E) bd t ∧ t { nx := fun _ H' => Q .non H', rt := Q } (start N vs) H) :
    FnG P w K mg base CX (k + 1) f (PySem.W.fnOf nm qu pa bd sc dV kV dc pm an cdv ct) ps sp where
  len := len
  go := by
    intro A outer s H args us vs Q E hG hr e0 bnd r q
    have K1 : K.In s.heap := e0.mod.kin.keeps fun b o e => (e0.bs b o e).1
    have lim := e0.mod.nolimit.keeps fun b o e => (e0.bs b o e).1
    have kinds : ∀ y ∈ ps.zip us, sc.names.lookup y.1 = some .local ∨ (sc.names.lookup y.1 = some .cell ∧ ((cellsFrom (s.heap.objs.size + 1) sc.names []).lookup y.1).isSome = true) := by
      rintro ⟨n, v⟩ hy
      cases S.par n (List.of_mem_zip hy).1 with
      | inl q => exact .inl q
      | inr q => exact .inr ⟨q, PySem.W.cellsFrom_some _ _ _ (.inl q)⟩
    refine codeAny_call_function hr.depth (K1 _ _ lk) rfl S.co S.gen rfl (PySem.W.codeRec_of K1 hcd) (bnd _ _ _ _ (wpAny_newFunctionEnv_cells S.kind kinds fun env he s1 x => ?_))
    subst he
    have hl := len _ _ _ _ q
    obtain ⟨t, ht, qt⟩ := hb A outer s H vs Q E hG (hr.deeper _) q
    have J := inv_start (E := E) (CX := CX) S hr.hd e0 hl r x
    refine ⟨lim.keeps x.toInCall.keep, codeAny_func (wpAny_mono (ht.run [] s1 (start N vs) H _ J qt) (fun fl s' hs => ?_) fun e s' hs => hs)⟩
    cases fl with
    | ret u => obtain ⟨v, σ', H', J', rv, q'⟩ := hs; exact ⟨v, H', J'.os, J'.bare, J'.base, J'.hok, rv, q'⟩
    | next => obtain ⟨σ', H', J', q'⟩ := hs; exact ⟨.non, H', J'.os, J'.bare, J'.base, J'.hok, rfl, q'⟩
    | brk => obtain ⟨_, _, _, q'⟩ := hs; exact q'.elim
    | cont => obtain ⟨_, _, _, q'⟩ := hs; exact q'.elim
end WR
namespace WR
open PySem PySem.Spec PyProof.Rows L2
/-- the module's name x is a def that keeps the promise sp where no repr is under way -/
structure Cg (P : Program) (w : World) (K : PySem.W.Frag) (mg : Str → Option Value) (base : Heap) (k : Nat) (x : Str) (ps : List Str) (sp : Sp) : Prop where
  ex : ∃ (f : Addr) (fd : FuncData), FnG P w K mg base CX0 k f fd ps sp ∧ mg x = some (.ref f) ∧ PySem.W.keepIn K (.ref f) = true ∧
    (∀ (s : Shared) (us : List Value), us.length = ps.length → BindsTo s fd ⟨us, []⟩ (ps.zip us)) ∧ ∀ (s : Shared) (us : List Value), us.length = ps.length → BindsTo s fd ⟨[], ps.zip us⟩ (ps.zip us)
/-- a def of the top, as the head tells it -/
abbrev FD (K : PySem.W.Frag) (x : Str) (st : Stmt) (f : Addr) (fd : FuncData) : Prop := FunD K x x (defArgs st) (defBody st) (defScope st) [] [] f fd
section
variable {P : Program} {w : World} {K : PySem.W.Frag} {mg : Str → Option Value} {base : Heap}
theorem cg_of {x : Str} {st : Stmt} {f : Addr} {fd : FuncData} {N ps : List Str} {k : Nat} {sp : Sp} (F : FD K x st f fd) (hm : mg x = some (.ref f)) (S : FnScope N ps (defScope st)) (len : ∀ vs H Q E, sp vs H Q E → vs.length = ps.length)
    (b1 : ∀ (kV dc pm : Value) (an : Option Addr) (cdv ct : Value) (us : List Value), us.length = ps.length → bindArgs (PySem.W.fnOf x x (defArgs st) (defBody st) (defScope st) .none kV dc pm an cdv ct) ⟨us, []⟩ = pure (ps.zip us))
    (b2 : ∀ (kV dc pm : Value) (an : Option Addr) (cdv ct : Value) (us : List Value), us.length = ps.length → bindArgs (PySem.W.fnOf x x (defArgs st) (defBody st) (defScope st) .none kV dc pm an cdv ct) ⟨[], ps.zip us⟩ = pure (ps.zip us))
    (hb : ∀ (cdv : Value) (A : Around) (outer : List Env) (s : Shared) (H : Hp) (vs : List V) (Q : VK) (E : XK), NoG (A.deeper (envOfC x (defScope st) s.heap.objs.size f cdv)) → Room k (A.deeper (envOfC x (defScope st) s.heap.objs.size f cdv)) → sp vs H Q E →
      ∃ t, PSs (cxOf CX0 P w K mg base N x (defScope st) f cdv A outer s H E).nox (defBody st) t ∧ t { nx := fun _ H' => Q .non H', rt := Q } (start N vs) H) : Cg P w K mg base (k + 1) x ps sp := by
  have kp := F.kp
  obtain ⟨oc, od, dV, kV, dc, pm, an, cdv, ct, sl, rfl, lk, hcd, hD, _⟩ := F.ex
  rcases hD with ⟨_, rfl⟩ | ⟨e, _⟩
  · exact ⟨f, _, fnG_of lk hcd S len fun A outer s H vs Q E hG hr hsp => let ⟨t, h1, h2⟩ := hb cdv A outer s H vs Q E hG hr hsp; ⟨t, h1.nox, h2⟩, hm, kp, fun s us hl => .of_eq (b1 kV dc pm an cdv ct us hl), fun s us hl => .of_eq (b2 kV dc pm an cdv ct us hl)⟩
  · exact absurd rfl e
theorem Cg.mono {j k : Nat} {x : Str} {ps : List Str} {sp : Sp} (c : Cg P w K mg base j x ps sp) (h : j ≤ k) : Cg P w K mg base k x ps sp := by
  obtain ⟨f, fd, F, r⟩ := c.ex
  exact ⟨f, fd, ⟨F.len, fun A outer s H args us vs Q E hG hr => F.go A outer s H args us vs Q E hG (hr.mono h)⟩, r⟩
end
section
variable {X : Cx} {x : Str} {ps : List Str} {k j : Nat} {sp : Sp} {p pos : Pos} {e : Expr} {es : List Expr} {t : TA}
theorem run_g {pins : List (Addr × Obj)} {σ : L2.St} {H : Hp} {s : Shared} {Q : VK} {us : List Value} {vs : List V} {f : Addr} {fd : FuncData} {args : Args} (F : FnG X.prog X.w X.K X.mg X.base CX0 k f fd ps sp) (hG : NoG X.A) (hr : Room k X.A) (hb : us.length = ps.length → BindsTo s fd args (ps.zip us))
    (I : Inv X pins σ H s) (r : Vals vs us) (h : sp vs H Q E0) : codeAny (model X.prog X.w) X.A (.call (.ref f) args) (fun r s' => match r with
      | .ok (.ret u) => EP X pins σ Q u s'
      | .ok _ => False
      | .error e => X.xe e s') s := by
  have hl : us.length = ps.length := by rw [← r.length]; exact F.len _ _ _ _ h
  refine codeAny_mono (F.go X.A X.stack s H args us vs Q E0 hG hr I.env0 (hb hl) r h) fun r s' hq => ?_
  cases r with
  | error e => exact False.elim hq
  | ok fl => cases fl with
    | ret u => exact I.after hq
    | next => exact hq.elim
    | brk => exact hq.elim
    | cont => exact hq.elim
/-- f(e, ..) -/
def tCallP (sp : Sp) (t : TA) : TE := fun σ H Q => t σ H fun vs H1 => sp vs H1 Q E0
theorem pe_g (c : Cg X.prog X.w X.K X.mg X.base k x ps sp) (hG : NoG X.A) (hr : Room j X.A) (hk : k ≤ j) (hg : Gl X x) (ha : PA X (e :: es) t)
    (hdb : (x == ("__debug__" : Str)) = false := by decide) (he : starEach (e :: es) X.env = (false, eval e X.env) :: starEach es X.env := by rfl) (hpl : (backTo pos (starEach es X.env)).any (·.1) = false := by rfl) :
    PE X (.Call (.Name x p) (e :: es) [] pos) (tCallP sp t) := by
  obtain ⟨f, fd, F, hm, kp, b1, _⟩ := c.ex
  refine ⟨fun pins s σ H Q I h => wpAny_Call_Name_kw (ld_glob I hg hm ?_ hdb)⟩
  refine PySem.W.callWith_K (h₀ := X.base) I.ok.mod.kin kp (thn (ha.run pos pins s σ H _ I h) fun us s1 ⟨vs, H1, I1, r, q⟩ => ⟨I1.kIn, wpAny_call (codeAny_mono (run_g F hG (hr.mono hk) (b1 s1 us) I1 r q) fun r s' hq => ?_)⟩) he hpl
  cases r with
  | error e => exact hq
  | ok fl => cases fl with
    | ret u => exact hq
    | next => exact hq.elim
    | brk => exact hq.elim
    | cont => exact hq.elim
def tCall0 (sp : Sp) : TE := fun _ H Q => sp [] H Q E0
theorem pe_g0 (c : Cg X.prog X.w X.K X.mg X.base k x ps sp) (hG : NoG X.A) (hr : Room j X.A) (hk : k ≤ j) (hg : Gl X x) (hdb : (x == ("__debug__" : Str)) = false := by decide) : PE X (.Call (.Name x p) [] [] pos) (tCall0 sp) := by
  obtain ⟨f, fd, F, hm, kp, b1, _⟩ := c.ex
  refine ⟨fun pins s σ H Q I h => wpAny_Call_Name_kw (ld_glob I hg hm ?_ hdb)⟩
  refine PySem.W.callWith_K0 I.kIn kp (wpAny_call (codeAny_mono (run_g (us := []) F hG (hr.mono hk) (b1 s []) I .nil h) fun r s' hq => ?_))
  cases r with
  | error e => exact hq
  | ok fl => cases fl with
    | ret u => exact hq
    | next => exact hq.elim
    | brk => exact hq.elim
    | cont => exact hq.elim
/-- f(k = v, ..): all by name, in the parameters' order -/
def tCallN (sp : Sp) (tk : TA) : TE := fun σ H Q => tk σ H fun zs H2 => sp zs H2 Q E0
theorem pe_gN {kws : List Keyword} {tk : TA} (c : Cg X.prog X.w X.K X.mg X.base k x ps sp) (hG : NoG X.A) (hr : Room j X.A) (hk : k ≤ j) (hg : Gl X x) (hkw : PK X kws tk)
    (hall : (backToKw pos (keywordEach kws X.env)).all (·.1.isSome) = true := by rfl) (hks : (backToKw pos (keywordEach kws X.env)).filterMap (·.1) = ps := by rfl) (hdb : (x == ("__debug__" : Str)) = false := by decide)
    (hpl : ((backTo pos (starEach [] X.env)).any (·.1) || (backToKw pos (keywordEach kws X.env)).any (·.1.isNone)) = false := by rfl) : PE X (.Call (.Name x p) [] kws pos) (tCallN sp tk) := by
  obtain ⟨f, fd, F, hm, kp, _, b2⟩ := c.ex
  refine ⟨fun pins s σ H Q I h => wpAny_Call_Name_kw (ld_glob I hg hm ?_ hdb)⟩
  refine PySem.W.callWith_KW0 (h₀ := X.base) I.ok.mod.kin kp hall (thn (hkw.run pos pins s σ H _ I h) fun ws s2 ⟨zs, H2, I2, rz, q2⟩ => ⟨I2.kIn, ?_⟩) hpl
  rw [hks]
  refine wpAny_call (codeAny_mono (run_g F hG (hr.mono hk) (b2 s2 ws) I2 rz q2) fun r s' hq => ?_)
  cases r with
  | error e => exact hq
  | ok fl => cases fl with
    | ret u => exact hq
    | next => exact hq.elim
    | brk => exact hq.elim
    | cont => exact hq.elim
/-! ### repr of data -/
mutual
theorem Dp.plain {K : PySem.W.Frag} {H : Hp} : ∀ (d : PyData) (v : V), Dp K H v d → d.hasDict = false
  | .none, _, _ => rfl
  | .bool _, _, _ => rfl
  | .int _, _, _ => rfl
  | .str _, _, _ => rfl
  | .list ds, _, h => by
    cases h with
    | lst _ ha => exact Dp.plainAll ds _ ha
  | .tuple ds, _, h => by
    cases h with
    | tup _ ha => exact Dp.plainAll ds _ ha
  | .dict _, _, h => by cases h
theorem Dp.plainAll {K : PySem.W.Frag} {H : Hp} : ∀ (ds : List PyData) (vs : List V), DpAll K H vs ds → PyData.hasDictAll ds = false
  | [], _, _ => rfl
  | d :: ds, _, h => by
    cases h with
    | cons h1 h2 =>
      show (d.hasDict || PyData.hasDictAll ds) = false
      rw [Dp.plain d _ h1, Dp.plainAll ds _ h2]; rfl
end
def rReprD (K : PySem.W.Frag) : List V → Hp → VK → Prop := fun vs H Q => ∃ (a : Addr) (d : PyData), vs = [.ref a] ∧ Dp K H (.ref a) d ∧ d.showable = true ∧ d.depth ≤ 40 ∧ d.shown.length ≤ sizeLine ∧ Q (.str d.shown) H
theorem call_reprD (hG : NoG X.A) (hr : Room k X.A) : CallR X (.builtin "repr") (rReprD X.K) := by
  intro pins s σ H xs us Q I r h
  obtain ⟨a, d, rfl, hd, hs, hdep, hz, q⟩ := h
  cases r with
  | cons r rr =>
    cases rr
    cases r
    obtain ⟨as, rd⟩ := Dp.reads I d _ _ hd rfl
    have hp := Dp.plain d _ hd
    have hu := hr.un
    exact repr_of_reads' rd hs (fun z => by rw [hp] at z; cases z) hG (by omega) (fun b o e => e) (fun h' u tk kp => ⟨.str d.shown, H, I.kept (t' := tk) kp, ⟨u, rfl⟩, q⟩) hz
end
end WR
namespace WR
open PySem PySem.W PySem.Calls PySem.Spec PyProof.Rows L2
/-! ### the law's end -/
theorem law_g {P : Program} {w : World} {K : Frag} {mg mb : Str → Option Value} {k : Nat} {fa a : Addr} {x : Str} {sp : Sp} {h1 : Heap} {s1 : Shared} {vs : List Value} {ns : List Int} (he : s1.heap = h1)
    (KX : K.In h1) (hns : h1.Ns mainGlobals mg) (hb : h1.Ns builtinsNs mb) (hbb : ∀ x : Str, x ≠ "__name__" → mb x = bootBuiltins x) (hlim : h1.NoLimit) (hg : s1.gens = #[])
    (ha : h1.get? a = some { cls := .type "list", data := .seq vs.toArray }) (hi : IntsAre vs ns) (hl : ns.length ≤ sizeLine) (hr : Room k callerA) (hnm : mg x = some (.ref fa))
    (F : ∀ base : Heap, K.In base → base.Ns mainGlobals mg → Cg P w K mg base k x ["script"] sp)
    (hsp : ∀ H : Hp, Only H → SqL K H a (ns.map V.int) → sp [.ref a] H (fun v _ => v = .bl true) E0) :
    codeAny (model P w) callerA (.call (.ref fa) ⟨[.ref a], []⟩) (fun r s' => r = .ok (.ret (.bool true)) ∧ OldK h1 s'.heap ∧ s'.os = s1.os ∧ AllBare s'.gens) s1 := by
  subst he
  have rv := vals_ints hi
  -- the script is what is tracked, or nothing is
  have key : ∃ H : Hp, Only H ∧ SqL K H a (ns.map V.int) ∧ HOk P w H s1.heap ∧ (∀ b, H b ≠ none → b = a) ∧ (H a ≠ none → K.lookup a = none) := by
    cases hk : K.lookup a with
    | some o =>
      have e := KX a o hk
      rw [ha] at e
      cases e
      refine ⟨fun _ => none, fun _ => .inl rfl, .inr ⟨_, vs.toArray, _, hk, rfl, rfl, rfl, ?_, by simpa using rv⟩, fun b u z => ?_, fun b z => absurd rfl z, fun z => absurd rfl z⟩
      · rw [List.size_toArray, hi.length]; exact hl
      · cases z
    | none =>
      have at_ : ∀ b, (if b = a then some (HO.frz { cls := .type "list", data := .seq vs.toArray } (.lst (ns.map V.int))) else none) ≠ none → b = a := fun b z => Decidable.byContradiction fun q => z (if_neg q)
      refine ⟨fun b => if b = a then some (.frz { cls := .type "list", data := .seq vs.toArray } (.lst (ns.map V.int))) else none, fun b => ?_, .inl (.inr ⟨_, if_pos rfl⟩), fun b u z => ?_, at_, fun _ => rfl⟩
      · by_cases q : b = a
        · exact .inr ⟨_, _, if_pos q⟩
        · exact .inl (if_neg q)
      · have q : b = a := Decidable.byContradiction fun q => by
          have z' := (if_neg q).symm.trans z
          cases z'
        subst q
        have z' := (if_pos rfl).symm.trans z
        cases z'
        exact ⟨ha, by rw [List.length_map]; exact hl, vs, _, rv, ha⟩
  obtain ⟨H, hO, hS, hok, hA, hK⟩ := key
  have free : ∀ {b : Addr} {o : Obj}, s1.heap.get? b = some o → b ≠ a → (hidT s1.heap H).get? b = some o := fun {b o} e n => hidT_get e (Decidable.byContradiction fun q => n (hA b q))
  have ns' : ∀ {b : Addr} {m : Str → Option Value}, s1.heap.Ns b m → (hidT s1.heap H).Ns b m := by
    rintro b m ⟨o, es, ep, e, d, r⟩
    refine ⟨o, es, ep, free e fun z => ?_, d, r⟩
    subst z
    rw [ha] at e
    cases e
    cases (show Data.seq vs.toArray _ = Data.dict es ep from d)
  have kin : K.In (hidT s1.heap H) := fun b o e => hidT_get (KX b o e) (Decidable.byContradiction fun q => by
    have z := hA b q
    subst z
    rw [hK q] at e
    cases e)
  obtain ⟨mc, q1, q2⟩ := hlim
  have e0 : Env0 P w K mg (hidT s1.heap H) callerA [] s1 H :=
    ⟨rfl, ⟨kin, ns' hns, ⟨mb, ns' hb, hbb⟩, ⟨mc, ns' q1, q2⟩⟩, fun b o e => of_hidT e, Nat.le_of_eq (hidT_size _ _), trivial, (fun b z => by cases z), hok, .of_eq hg⟩
  obtain ⟨f, fd, G, hm, kp, b1, _⟩ := (F _ kin (ns' hns)).ex
  have ef := hnm.symm.trans hm
  cases ef
  refine codeAny_mono (G.go callerA [] s1 H ⟨[.ref a], []⟩ [.ref a] [.ref a] _ E0 rfl hr e0 (b1 s1 [.ref a] rfl) (.cons rfl .nil) (hsp H hO hS)) fun r s' q => ?_
  cases r with
  | error e => exact False.elim q
  | ok fl => cases fl with
    | next => exact False.elim q
    | brk => exact False.elim q
    | cont => exact False.elim q
    | ret u =>
      obtain ⟨v, H', os, bare, un, hok', rr, q'⟩ := q
      have q2 : v = .bl true := q'
      subst q2
      obtain rfl : u = Value.bool true := rr
      refine ⟨rfl, OldK.of_keep fun b o e => ?_, os, bare⟩
      rcases hO b with z | ⟨ob, xs, z⟩
      · exact un.keep b o e z (by intro z; cases z) (by simp)
      · have z2 := un.frzs b ob _ z
        obtain ⟨e1, _⟩ := hok b _ z
        rw [e] at e1
        cases e1
        exact (hok' b _ z2).1
theorem walk_g {l : OpenLaw} {n k : Nat} {q : Program} {loose : List Str} {XP : (Str → Option Value) → Heap → Prop} {YP : World → Heap → Prop} {d : DefRec}
    (hn : l.most = some n) (hn2 : n ≤ sizeLine) (hdf : d.params.defaults = []) (hr : Room k callerA)
    (F : ∀ (w : World) (mg : Str → Option Value) (h : Heap), YP w h → h.Ns mainGlobals mg →
      ∃ (K : Frag) (sp : Sp), K.In h ∧ (∀ (H : Hp) (a : Addr) (ns : List Int), ns.length ≤ n → Only H → SqL K H a (ns.map V.int) → sp [.ref a] H (fun v _ => v = .bl true) E0) ∧
        ∀ base : Heap, K.In base → base.Ns mainGlobals mg → Cg l.prog w K mg base k d.name ["script"] sp) :
    WalkO q loose XP YP l.row.toRowW d [] (fun f vs => PySem.call f vs) := by
  refine Att.attach_call hn hdf fun w s0 s1 mg mb fa o pm cd dc a vs ns G Y ho hd hcd hmg hobj hints hlen hg => ?_
  obtain ⟨K, sp, KX, hsp, hF⟩ := F w mg _ Y G.T.g
  exact law_g rfl KX G.T.g G.T.b G.T.builtins G.T.nolimit hg hobj hints (Nat.le_trans hlen hn2) hr hmg hF fun H hO hS => hsp H a ns hlen hO hS
end WR
namespace L2
open PySem
theorem Same.new {H : Hp} {p : Addr} {o : HO} (h : H p = none) : Same H (upd H p o) := fun b u e => by rw [upd_ne (ne_of_none e h)]; exact e
theorem Same.put {H H' : Hp} {p : Addr} {o : HO} (e : Same H H') (h : H p = none) : Same H (upd H' p o) := fun b u q => by rw [upd_ne (ne_of_none q h)]; exact e b u q
end L2
namespace WR
open PySem PySem.Spec PyProof.Rows L2
abbrev S := SX.S
/-! ### heaps -/
theorem Same.none {H H' : Hp} {p : Addr} (e : Same H H') (h : H' p = none) : H p = Option.none := e.free h
/-- all but what stands at a is as it was -/
def But (a : Addr) (H H' : Hp) : Prop := ∀ b o, b ≠ a → H b = some o → H' b = some o
theorem But.refl (a : Addr) (H : Hp) : But a H H := fun _ _ _ e => e
theorem But.trans {a : Addr} {H H1 H2 : Hp} (x : But a H H1) (y : But a H1 H2) : But a H H2 := fun b o n e => y b o n (x b o n e)
theorem But.of {a : Addr} {H H' : Hp} (x : Same H H') : But a H H' := fun b o _ e => x b o e
theorem But.put {a : Addr} {H : Hp} {o : HO} : But a H (upd H a o) := fun b u n e => by rw [upd_ne n]; exact e
theorem But.new {a p : Addr} {H : Hp} {o : HO} (h : H p = none) : But a H (upd H p o) := But.of (Same.new h)
theorem But.none {a p : Addr} {H H' : Hp} (x : But a H H') (n : p ≠ a) (h : H' p = none) : H p = Option.none := by
  cases q : H p with
  | none => rfl
  | some o => rw [x p o n q] at h; cases h
/-! ### texts as lists of codes -/
theorem S_len (l : List Nat) : (S l).length = l.length := SX.S_len l
theorem S_app (a b : List Nat) : S a ++ S b = S (a ++ b) := by
  show (⟨a.toArray ++ b.toArray⟩ : Str) = _
  simp [SX.S]
theorem S_inj {a b : List Nat} (h : S a = S b) : a = b := by
  have := congrArg (fun z : Str => z.cps.toList) h
  simpa using this
theorem S_dec (a b : List Nat) : decide (V.str (S a) = V.str (S b)) = decide (a = b) := by
  by_cases e : a = b
  · subst e; simp
  · rw [decide_eq_false e, decide_eq_false]
    intro q
    exact e (S_inj (V.str.inj q))
theorem S_cps (l : List Nat) : (S l).cps.toList = l := by simp [SX.S]
theorem S_size (l : List Nat) : (S l).cps.size = l.length := by simp [SX.S]
theorem S_get (l : List Nat) (i : Nat) : (S l).cps[i]? = l[i]? := by simp [SX.S]
theorem cutS_S (l : List Nat) (a b : Nat) : cutS (S l) (some (a : Int)) (some (b : Int)) = S ((l.drop a).take (b - a)) := by
  unfold cutS
  rw [S_cps, S_len, HT.sIx_nat, HT.sIx_nat]
  congr 1
  congr 1
  by_cases h : a ≤ l.length
  · rw [Nat.min_eq_left h]
    by_cases h2 : b ≤ l.length
    · rw [Nat.min_eq_left h2]
    · rw [Nat.min_eq_right (by omega), List.take_of_length_le (by simp), List.take_of_length_le (by simp; omega)]
  · rw [Nat.min_eq_right (show l.length ≤ a by omega), List.drop_of_length_le (Nat.le_refl _), List.drop_of_length_le (show l.length ≤ a by omega)]
    simp
theorem cutS_lo (l : List Nat) (b : Nat) : cutS (S l) none (some (b : Int)) = S (l.take b) := by
  have := cutS_S l 0 b
  rw [List.drop_zero, Nat.sub_zero] at this
  exact this
theorem cutS_hi (l : List Nat) (a : Nat) : cutS (S l) (some (a : Int)) none = S (l.drop a) := by
  unfold cutS
  rw [S_cps, S_len, HT.sIx_nat, HT.sIx_none]
  congr 1
  congr 1
  by_cases h : a ≤ l.length
  · rw [Nat.min_eq_left h, List.take_of_length_le (by simp)]
  · rw [Nat.min_eq_right (show l.length ≤ a by omega), List.drop_of_length_le (Nat.le_refl _), List.drop_of_length_le (show l.length ≤ a by omega)]
    simp
theorem at_S {l : List Nat} {i c : Nat} (h : l[i]? = some c) : atI (S l).cps.toList (i : Int) = some c := by
  rw [S_cps]
  exact atI_nat h
theorem mulS (l : List Nat) (n : Nat) : (⟨(List.replicate n (S l).cps).foldl (· ++ ·) #[]⟩ : Str) = S (List.replicate n l).flatten := by
  have : ∀ (n : Nat) (a : Array Nat), (List.replicate n (S l).cps).foldl (· ++ ·) a = a ++ (List.replicate n l).flatten.toArray := by
    intro n
    induction n with
    | zero => intro a; simp
    | succ n ih =>
      intro a
      rw [List.replicate_succ, List.foldl_cons, ih, List.replicate_succ]
      simp [SX.S]
  rw [this]
  simp [SX.S]
theorem join_S (ls : List (List Nat)) : Txt.join (S []) (ls.map S) = S ls.flatten := by
  have e : Txt.join (S []) (ls.map S) = Str.join (S []) (ls.map S) := PySem.StrLaws.glued_eq_join _ _
  rw [e]
  clear e
  induction ls with
  | nil => rfl
  | cons a r ih =>
    cases r with
    | nil =>
      show S a = S _
      simp
    | cons b r =>
      show S a ++ S [] ++ Str.join (S []) ((b :: r).map S) = S _
      rw [ih, S_app, S_app]
      simp
/-! ### walks -/
theorem walk_enumS {k : Int} {z : Str} : Walk (IteS k z) z.cps.size (fun _ => True) (fun i H v H' => ∃ T c, v = .ref T ∧ H T = none ∧ H' = upd H T (.tup [.int (k + (i : Nat)), .str ⟨#[c]⟩]) ∧ z.cps[i]? = some c) where
  goes := fun i H hi _ => hi
  stops := fun H _ => rfl
  yields := fun i H x H' _ _ y => y
/-- a comprehension whose test and element change nothing -/
theorem lc_pure {J : It} {n : Nat} {G : Hp → Prop} {Y : Nat → Hp → V → Hp → Prop} (w : Walk J n G Y) {g : TG} {tt : TT} {te : TE} {vs : List Nat} {σ : L2.St} {H1 : Hp} {D : Addr} {Qd : Hp → Prop} (b : Nat → Bool) (f : Nat → V)
    (hD : H1 D = none) (hn : n ≤ 1000000) (hG : ∀ H, Same H1 H → G H)
    (hs : ∀ i x H H' (N : V → Hp → Prop) (N0 : Hp → Prop), i < n → Same H1 H → Y i H x H' → (∀ H4, Same H H4 → b i = true → N (f i) H4) → (∀ H4, Same H H4 → b i = false → N0 H4) →
      g x (wipe σ vs) H' fun σ2 H2 => wipe σ2 vs = wipe σ vs ∧ tt σ2 H2 fun c H3 => if c = true then te σ2 H3 N else N0 H3)
    (hd : ∀ H, Same H1 H → H D = some (.lst (((List.range n).filter b).map f)) → Qd H) :
    ∃ W : Nat → Nat → Hp → Prop, (∃ m, W 0 m (upd H1 D (.lst []))) ∧ ∀ i m H, W i m H →
      (J.stop i H ∧ Qd H) ∨ (J.go i H ∧ ∃ Nx : Hp → Prop, (∀ H', Nx H' → ∃ m', m' < m ∧ W (i + 1) m' H') ∧ ∀ x H', J.yld i H x H' → g x (wipe σ vs) H' fun σ2 H2 => wipe σ2 vs = wipe σ vs ∧ tt σ2 H2 fun b H3 =>
        if b = true then te σ2 H3 fun y H4 => ∃ acc, H4 D = some (.lst acc) ∧ acc.length < sizeLine ∧ Nx (upd H4 D (.lst (acc ++ [y]))) else Nx H3) := by
  refine lc_it w (fun i H => Same H1 H ∧ H D = some (.lst (((List.range i).filter b).map f))) ⟨Same.new hD, upd_same⟩ (fun i H _ p => hG H p.1) (fun i x H H' hi p hy => ?_) fun H p => hd H p.1 p.2
  obtain ⟨p1, p2⟩ := p
  refine hs i x H H' _ _ hi p1 hy (fun H4 q c => ⟨_, q _ _ p2, ?_, Same.put (p1.trans q) hD, ?_⟩) fun H4 q c => ⟨p1.trans q, ?_⟩
  · have h1 : (((List.range i).filter b).map f).length ≤ i := by
      rw [List.length_map]
      exact Nat.le_trans (List.length_filter_le _ _) (by simp)
    rw [sizeLine_eq]
    omega
  · rw [upd_same, List.range_succ, List.filter_append, List.map_append, List.filter_cons, if_pos c]
    rfl
  · rw [List.range_succ, List.filter_append, List.map_append, List.filter_cons, if_neg (by rw [c]; exact Bool.false_ne_true)]
    simpa using q _ _ p2
/-! ### list(text) -/
def rListTx : List V → Hp → VK → Prop := fun xs H Q => ∃ l : List Nat, xs = [V.str (S l)] ∧ l.length ≤ 100000 ∧ ∀ p, H p = none → Q (.ref p) (upd H p (.lst (l.map fun c => V.str (S [c]))))
theorem vals_signs : ∀ (l : List Nat) (us : List Value), us.length = l.length → (∀ (j : Nat) (v : Value), us[j]? = some v → ∃ (c : Nat) (u : Tok), l[j]? = some c ∧ v = Value.str ⟨#[c]⟩ u) → Vals (l.map fun c => V.str (S [c])) us
  | [], [], _, _ => .nil
  | [], _ :: _, h, _ => by simp at h
  | _ :: _, [], h, _ => by simp at h
  | c :: l, u :: us, h, hj => by
    obtain ⟨c', t, e1, e2⟩ := hj 0 u rfl
    have e3 : c = c' := Option.some.inj e1
    subst e3
    exact .cons ⟨t, e2⟩ (vals_signs l us (by simpa using h) fun j v hv => hj (j + 1) v hv)
theorem call_list_tx {X : Cx} (hc : X.calm = true) : CallR X (.type "list") rListTx := by
  intro pins s σ H xs us Q I r h
  obtain ⟨l, rfl, hl, q⟩ := h
  cases r with
  | cons r rr =>
    cases rr
    obtain ⟨t, rfl⟩ := r
    refine call_list_str (I.ok.hd hc) (S l) t (hn := by rw [S_size, sizeLine_eq]; omega) fun h' tk acc c hk hS hacc => ?_
    have rv : Vals (l.map fun c => V.str (S [c])) acc.toList := vals_signs l _ (by have := hacc.1; simpa using this) fun j v hv => by
      obtain ⟨c, u, e1, e2⟩ := hacc.2 j v (by simpa using hv)
      exact ⟨c, u, by simpa using e1, e2⟩
    exact ⟨.ref s.heap.objs.size, _, I.laid (t' := tk) hk (Nat.le_refl _) (show ObjOk X.prog X.w _ h' _ (.lst _) from ⟨by rw [List.length_map, sizeLine_eq]; omega, acc.toList, c, rv, by simpa using hS⟩), rfl, q _ (I.hok.fresh (Nat.le_refl _))⟩
/-! ### the cells -/
instance (c : Nat) : Decidable (WM.IsCell c) := by unfold WM.IsCell; infer_instance
instance (l : List Nat) : Decidable (WM.Cells l) := by unfold WM.Cells; infer_instance
theorem mem_cells (c : Nat) : decide (c ∈ (S [48, 49, 50, 51, 52, 53, 54, 55, 56, 57, 97, 98, 99, 100, 101, 102]).cps.toList) = decide (WM.IsCell c) := by
  rw [S_cps]
  have e : c ∈ [48, 49, 50, 51, 52, 53, 54, 55, 56, 57, 97, 98, 99, 100, 101, 102] ↔ WM.IsCell c := by
    simp only [List.mem_cons, List.not_mem_nil, or_false]
    unfold WM.IsCell
    omega
  by_cases h : WM.IsCell c
  · rw [decide_eq_true h, decide_eq_true (e.mpr h)]
  · rw [decide_eq_false h, decide_eq_false fun q => h (e.mp q)]
theorem allr (p : Nat → Bool) (l : List Nat) : ((List.range l.length).map fun i => p (l.getD i 0)).all id = l.all p := by
  have e : (List.range l.length).map (fun i => p (l.getD i 0)) = l.map p := by
    apply List.ext_getElem?
    intro i
    by_cases h : i < l.length
    · simp [h, List.getD]
    · simp [h, List.getElem?_eq_none (show l.length ≤ i by omega)]
  rw [e, List.all_map]
  rfl
/-! ### a comprehension without a test -/
theorem yes_of {σ : L2.St} {H : Hp} {te : TE} {N : V → Hp → Prop} {N0 : Hp → Prop} (h : te σ H N) : tYes σ H fun c H3 => if c = true then te σ H3 N else N0 H3 := by
  show (if true = true then te σ H N else N0 H)
  rw [if_pos rfl]
  exact h
theorem lc_map {J : It} {n : Nat} {G : Hp → Prop} {Y : Nat → Hp → V → Hp → Prop} (w : Walk J n G Y) {g : TG} {te : TE} {vs : List Nat} {σ : L2.St} {H1 : Hp} {D : Addr} {Qd : Hp → Prop} (f : Nat → V)
    (hD : H1 D = none) (hn : n ≤ 1000000) (hG : ∀ H, Same H1 H → G H)
    (hs : ∀ i x H H' (N : V → Hp → Prop), i < n → Same H1 H → Y i H x H' → (∀ H4, Same H H4 → N (f i) H4) → g x (wipe σ vs) H' fun σ2 H2 => wipe σ2 vs = wipe σ vs ∧ te σ2 H2 N)
    (hg : ∀ x σ H (A B : L2.St → Hp → Prop), (∀ s h, A s h → B s h) → g x σ H A → g x σ H B)
    (hd : ∀ H, Same H1 H → H D = some (.lst ((List.range n).map f)) → Qd H) :
    ∃ W : Nat → Nat → Hp → Prop, (∃ m, W 0 m (upd H1 D (.lst []))) ∧ ∀ i m H, W i m H →
      (J.stop i H ∧ Qd H) ∨ (J.go i H ∧ ∃ Nx : Hp → Prop, (∀ H', Nx H' → ∃ m', m' < m ∧ W (i + 1) m' H') ∧ ∀ x H', J.yld i H x H' → g x (wipe σ vs) H' fun σ2 H2 => wipe σ2 vs = wipe σ vs ∧ tYes σ2 H2 fun b H3 =>
        if b = true then te σ2 H3 fun y H4 => ∃ acc, H4 D = some (.lst acc) ∧ acc.length < sizeLine ∧ Nx (upd H4 D (.lst (acc ++ [y]))) else Nx H3) :=
  lc_pure w (fun _ => true) f hD hn hG (fun i x H H' N N0 hi hS hy h1 _ => hg _ _ _ _ _ (fun _ _ q => ⟨q.1, yes_of q.2⟩) (hs i x H H' N hi hS hy fun H4 q => h1 H4 q rfl)) fun H hS hL => hd H hS (by rw [List.filter_eq_self.mpr (by simp)] at hL; exact hL)
theorem mono_name {i : Nat} : ∀ x σ H (A B : L2.St → Hp → Prop), (∀ s h, A s h → B s h) → gName i x σ H A → gName i x σ H B := fun _ _ _ _ _ h q => h _ _ q
theorem map_V {α : Type} {n : Nat} (F : α → V) (p : Nat → α) : (List.range n).map (fun i => F (p i)) = ((List.range n).map p).map F := by rw [List.map_map]; rfl
theorem getD_of {l : List Nat} {i c : Nat} (h : (S l).cps[i]? = some c) : l.getD i 0 = c := by
  rw [S_get] at h
  simp [List.getD, h]
theorem map_getD {α : Type} (f : Nat → α) (l : List Nat) : (List.range l.length).map (fun i => f (l.getD i 0)) = l.map f := by
  apply List.ext_getElem?
  intro i
  by_cases h : i < l.length
  · simp [h, List.getD]
  · simp [h, List.getElem?_eq_none (show l.length ≤ i by omega)]
theorem S_take {k p : Nat} : ∀ {l : List Nat} {i c : Nat}, l[i]? = some c → WM.S k p (l.take (i + 1)) = WM.S k p (l.take i) + WM.lack c * (p + i) ^ k
  | [], i, c, h => by simp at h
  | d :: l, 0, c, h => by
    have e : d = c := by simpa using h
    subst e
    simp [WM.S]
  | d :: l, i + 1, c, h => by
    have := S_take (k := k) (p := p + 1) (l := l) (i := i) (c := c) (by simpa using h)
    simp only [List.take_succ_cons, WM.S, this]
    rw [show p + 1 + i = p + (i + 1) by omega]
    omega
theorem cell_cases {c : Nat} (h : WM.IsCell c) : c = 48 ∨ c = 49 ∨ c = 50 ∨ c = 51 ∨ c = 52 ∨ c = 53 ∨ c = 54 ∨ c = 55 ∨ c = 56 ∨ c = 57 ∨ c = 97 ∨ c = 98 ∨ c = 99 ∨ c = 100 ∨ c = 101 ∨ c = 102 := by
  unfold WM.IsCell at h
  omega
/-! ### figures in sixteens -/
theorem hexT_figs {k n : Nat} (hk : 1 ≤ k) (h : n < 16 ^ k) : (Nat.toDigits 16 n).length ≤ k ∧ hexT k n = S (WM.figs k n) := by
  obtain ⟨h1, h2⟩ := WM.digs k n hk h
  refine ⟨h1, ?_⟩
  unfold hexT
  rw [h2]
theorem ofs_nil : (Str.ofString "" : Str) = S [] := by decide +kernel
theorem one_S (c : Nat) : (⟨#[c]⟩ : Str) = S [c] := rfl
theorem join_V (ls : List (List Nat)) : ls.map (fun l => V.str (S l)) = (ls.map S).map V.str := by rw [List.map_map]; rfl
theorem len_S (ls : List (List Nat)) : ((ls.map S).map (·.length)).sum = ls.flatten.length := by
  rw [List.length_flatten, List.map_map]
  congr 1
theorem flat_one {α β : Type} (f : α → β) (l : List α) : (l.map fun c => [f c]).flatten = l.map f := by
  induction l with
  | nil => rfl
  | cons a l ih => simp [ih]
theorem one_map (ts : List Nat) : (ts.map fun c => S [c]) = (ts.map fun c => [c]).map S := by rw [List.map_map]; rfl
theorem join_one (ts : List Nat) : Txt.join (S []) (ts.map fun c => S [c]) = S ts := by
  rw [one_map, join_S, flat_one, List.map_id']
theorem join_len1 (ts : List Nat) : ((ts.map fun c => S [c]).map (·.length)).sum = ts.length := by
  rw [one_map, len_S, flat_one, List.map_id']
end WR
namespace WR
open PySem
/-! ### zip of two texts -/
/-- the five objects of a zip are five -/
structure Five (z p o a b : Addr) : Prop where
  pz : p ≠ z
  oz : o ≠ z
  az : a ≠ z
  bz : b ≠ z
  po : p ≠ o
  pa : p ≠ a
  pb : p ≠ b
  oa : o ≠ a
  ob : o ≠ b
  ab : a ≠ b
section
variable {prog : Program} {w : World} {A : Around} {E : Value → Shared → Prop} {s : Shared}
theorem iter_at {h h' : Heap} {it : Addr} {T : String} {x : Str} {t : Tok} {i : Nat} (q : h.IsStrIter it T x t i) (k : ∀ o, h.get? it = some o → h'.get? it = some o) : h'.IsStrIter it T x t i := by
  obtain ⟨o, e, r⟩ := q
  exact ⟨o, k o e, r⟩
theorem iter_lt {h : Heap} {it : Addr} {T : String} {x : Str} {t : Tok} {i : Nat} (q : h.IsStrIter it T x t i) : it < h.objs.size := by
  obtain ⟨o, e, r⟩ := q
  exact Heap.lt_size e
theorem zs_item {z p o i j : Addr} {k : Nat} {x y : Str} {t u : Tok} {m n : Value} {Q : Value → Shared → Prop} (hA : A.handled = none) (D : Five z p o i j)
    (fz : IsZip s.heap z p o .none) (fp : IsPair s.heap p (.ref i) (.ref j)) (fo : IsPair s.heap o m n)
    (f1 : s.heap.IsStrIter i (strIterType x) x t k) (f2 : s.heap.IsStrIter j (strIterType y) y u k) (l1 : k < x.cps.size) (l2 : k < y.cps.size)
    (done : ∀ g tk c d v1 v2, x.cps[k]? = some c → y.cps[k]? = some d → IsZip g z p o (rawInt s.heap.objs.size) → IsPair g o (.str ⟨#[c]⟩ v1) (.str ⟨#[d]⟩ v2) →
      g.IsStrIter i (strIterType x) x t (k + 1) → g.IsStrIter j (strIterType y) y u (k + 1) → IsPair g s.heap.objs.size (.str ⟨#[c]⟩ v1) (.str ⟨#[d]⟩ v2) → g.objs.size = s.heap.objs.size + 1 →
      (∀ e ob, e ≠ z → e ≠ o → e ≠ i → e ≠ j → s.heap.get? e = some ob → g.get? e = some ob) → Q (.ref s.heap.objs.size) { s with heap := g, toks := tk }) :
    wpAny (model prog w) A (Builtin.«zip.__next__» ⟨[.ref z], []⟩) (fun fin s' => ∃ v, fin = .done (.ret v) ∧ Q v s') E s := by
  have T1 : ∀ A : Around, A.handled = none → Draws prog w A i [i] x.cps.size _ _ := fun A h => Draws.text h i x t
  have T2 : ∀ A : Around, A.handled = none → Draws prog w A j [j] y.cps.size _ _ := fun A h => Draws.text h j y u
  show wpAny _ _ (field (.ref z) 2 >>= _) _ _ _
  refine wpAny_bind (wpAny_field fz rfl (x := .bool false) rfl ?_)
  show wpAny _ _ (field (.ref z) 3 >>= _) _ _ _
  refine wpAny_bind (wpAny_field fz rfl (x := .ref p) rfl (wpAny_bind (wpAny_seqItems fp rfl ?_)))
  show wpAny _ _ (Builtin.SmallTypes.ownedTupleIsFree (.ref z) >>= _) _ _ _
  refine wpAny_bind ?_
  unfold Builtin.SmallTypes.ownedTupleIsFree
  refine wpAny_bind (wpAny_field fz rfl (x := .none) rfl (wpAny_pure ?_))
  simp only [if_true]
  refine wpAny_bind (wpAny_rule (wpAny_bind (wpAny_field fz rfl (x := .ref o) rfl ?_)))
  refine wpAny_bind (wpAny_setField_rec fz (by simp) fun g1 z1 k1 => ?_)
  replace z1 : IsZip g1 z p o .ellipsis := z1
  refine wpAny_bind ?_
  simp only [List.zipIdx_cons, List.zipIdx_nil, List.forIn_cons, List.forIn_nil]
  refine wpAny_bind (wpAny_bind (wpAny_onRaise ?_))
  show wpAny _ _ (Builtin.SmallTypes.nextOf (.ref i) >>= _) _ _ _
  refine wpAny_bind ((T1 _ hA).item k _ _ _ l1 (iter_at f1 fun ob e => k1.extBut _ _ D.az e) fun v g2 tk2 pv q2 k2 => wpAny_pure ?_)
  obtain ⟨c, v1, hc, rfl⟩ := pv
  have o2 : IsPair g2 o m n := k2.extBut _ _ D.oa (k1.extBut _ _ D.oz fo)
  refine wpAny_bind (wpAny_seqItems o2 rfl (wpAny_bind (wpAny_updateSeq_pair o2 fun g3 o3 k3 => ?_)))
  replace o3 : IsPair g3 o (.str ⟨#[c]⟩ v1) n := o3
  refine wpAny_bind (wpAny_letGo (wpAny_pure (wpAny_bind (wpAny_bind (wpAny_onRaise ?_)))))
  show wpAny _ _ (Builtin.SmallTypes.nextOf (.ref j) >>= _) _ _ _
  refine wpAny_bind ((T2 _ hA).item k _ _ _ l2 (iter_at f2 fun ob e => k3.extBut _ _ (Ne.symm D.ob) (k2.extBut _ _ (Ne.symm D.ab) (k1.extBut _ _ D.bz e))) fun v' g4 tk4 pv' q4 k4 => wpAny_pure ?_)
  obtain ⟨d, v2, hd, rfl⟩ := pv'
  have o4 : IsPair g4 o (.str ⟨#[c]⟩ v1) n := k4.extBut _ _ D.ob o3
  refine wpAny_bind (wpAny_seqItems o4 rfl (wpAny_bind (wpAny_updateSeq_pair o4 fun g5 o5 k5 => ?_)))
  replace o5 : IsPair g5 o (.str ⟨#[c]⟩ v1) (.str ⟨#[d]⟩ v2) := o5
  refine wpAny_bind (wpAny_letGo (wpAny_pure (wpAny_pure (wpAny_bind (wpAny_seqItems o5 rfl (wpAny_bind (wpAny_newTuple ?_)))))))
  have sz : g5.objs.size = s.heap.objs.size := by rw [k5.1, k4.1, k3.1, k2.1, k1.1]
  have z5 : IsZip g5 z p o .ellipsis := k5.extBut _ _ (Ne.symm D.oz) (k4.extBut _ _ (Ne.symm D.bz) (k3.extBut _ _ (Ne.symm D.oz) (k2.extBut _ _ (Ne.symm D.az) z1)))
  have kk : ∀ e ob, e ≠ z → e ≠ o → e ≠ i → e ≠ j → s.heap.get? e = some ob → g5.get? e = some ob := fun e ob n1 n2 n3 n4 r =>
    k5.extBut _ _ n2 (k4.extBut _ _ n4 (k3.extBut _ _ n2 (k2.extBut _ _ n3 (k1.extBut _ _ n1 r))))
  have i5 : g5.IsStrIter i (strIterType x) x t (k + 1) := iter_at q2 fun ob r => k5.extBut _ _ (Ne.symm D.oa) (k4.extBut _ _ D.ab (k3.extBut _ _ (Ne.symm D.oa) r))
  have j5 : g5.IsStrIter j (strIterType y) y u (k + 1) := iter_at q4 fun ob r => k5.extBut _ _ (Ne.symm D.ob) r
  have zl : z < g5.objs.size := Heap.lt_size z5
  show wpAny _ _ (Builtin.SmallTypes.ownedTupleHandOut (.ref z) (.ref g5.objs.size) >>= _) _ _ _
  refine wpAny_bind ?_
  unfold Builtin.SmallTypes.ownedTupleHandOut
  have z6 : IsZip (g5.push { cls := .type "tuple", data := .seq #[.str ⟨#[c]⟩ v1, .str ⟨#[d]⟩ v2] }) z p o .ellipsis := Heap.get?_push_of_some _ z5
  refine wpAny_bind (wpAny_setField_rec z6 (by simp) fun g7 z7 k7 => ?_)
  replace z7 : IsZip g7 z p o (rawInt g5.objs.size) := z7
  refine wpAny_setField_rec z7 (by simp) fun g8 z8 k8 => ?_
  replace z8 : IsZip g8 z p o (rawInt g5.objs.size) := z8
  have up : ∀ e ob, e ≠ z → g5.get? e = some ob → g8.get? e = some ob := fun e ob ne r => k8.extBut _ _ ne (k7.extBut _ _ ne (Heap.get?_push_of_some _ r))
  have nz : g5.objs.size ≠ z := Nat.ne_of_gt zl
  have p8 : IsPair g8 g5.objs.size (.str ⟨#[c]⟩ v1) (.str ⟨#[d]⟩ v2) := k8.extBut _ _ nz (k7.extBut _ _ nz (Heap.get?_push_size _ rfl))
  have s8 : g8.objs.size = g5.objs.size + 1 := by rw [k8.1, k7.1, Heap.size_push]
  rw [sz] at z8 p8 s8
  refine wpAny_pure ⟨_, rfl, ?_⟩
  show Q (.ref g5.objs.size) _
  rw [sz]
  exact done g8 _ c d v1 v2 hc hd z8 (up _ _ D.oz o5) (iter_at i5 fun ob r => up _ ob D.az r) (iter_at j5 fun ob r => up _ ob D.bz r) p8 s8 fun e ob n1 n2 n3 n4 r => up e ob n1 (kk e ob n1 n2 n3 n4 r)
theorem zs_stop {z p o i j : Addr} {x y : Str} {t u : Tok} {m n : Value} {Q : Fin → Shared → Prop} (hA : A.handled = none) (D : Five z p o i j)
    (fz : IsZip s.heap z p o .none) (fp : IsPair s.heap p (.ref i) (.ref j)) (fo : IsPair s.heap o m n) (f1 : s.heap.IsStrIter i (strIterType x) x t x.cps.size)
    (out : ∀ g e, (∀ c ob, c ≠ z → c ≠ o → c ≠ i → c ≠ j → s.heap.get? c = some ob → g.get? c = some ob) → (∃ ob, g.get? e = some ob ∧ ob.cls = .type "StopIteration") → E (.ref e) { s with heap := g }) :
    wpAny (model prog w) A (Builtin.«zip.__next__» ⟨[.ref z], []⟩) Q E s := by
  have T1 : ∀ A : Around, A.handled = none → Draws prog w A i [i] x.cps.size _ _ := fun A h => Draws.text h i x t
  show wpAny _ _ (field (.ref z) 2 >>= _) _ _ _
  refine wpAny_bind (wpAny_field fz rfl (x := .bool false) rfl ?_)
  show wpAny _ _ (field (.ref z) 3 >>= _) _ _ _
  refine wpAny_bind (wpAny_field fz rfl (x := .ref p) rfl (wpAny_bind (wpAny_seqItems fp rfl ?_)))
  show wpAny _ _ (Builtin.SmallTypes.ownedTupleIsFree (.ref z) >>= _) _ _ _
  refine wpAny_bind ?_
  unfold Builtin.SmallTypes.ownedTupleIsFree
  refine wpAny_bind (wpAny_field fz rfl (x := .none) rfl (wpAny_pure ?_))
  simp only [if_true]
  refine wpAny_bind (wpAny_rule (wpAny_bind (wpAny_field fz rfl (x := .ref o) rfl ?_)))
  refine wpAny_bind (wpAny_setField_rec fz (by simp) fun g1 z1 k1 => ?_)
  replace z1 : IsZip g1 z p o .ellipsis := z1
  refine wpAny_bind ?_
  simp only [List.zipIdx_cons, List.zipIdx_nil, List.forIn_cons, List.forIn_nil]
  refine wpAny_bind (wpAny_bind (wpAny_onRaise ?_))
  show wpAny _ _ (Builtin.SmallTypes.nextOf (.ref i) >>= _) _ _ _
  refine wpAny_bind ((T1 _ hA).done _ _ _ (iter_at f1 fun ob e => k1.extBut _ _ D.az e) fun g2 e k2 he => ?_)
  obtain ⟨ob, hob, hcl⟩ := he
  have z2 : IsZip g2 z p o .ellipsis := k2 _ _ (Ne.symm D.az) z1
  have nez : e ≠ z := fun q => by subst q; rw [z2] at hob; cases hob; simp at hcl
  refine wpAny_setField_rec z2 (by simp) fun g3 _ k3 => out g3 e (fun c oc n1 _ n3 _ r => k3.extBut _ _ n1 (k2 _ _ n3 (k1.extBut _ _ n1 r))) ⟨ob, k3.extBut _ _ nez hob, hcl⟩
theorem zs_next {z p o i j : Addr} {k : Nat} {x y : Str} {t u : Tok} {m n : Value} {Q : Option Value → Shared → Prop} (hA : A.handled = none) (D : Five z p o i j)
    (fz : IsZip s.heap z p o .none) (fp : IsPair s.heap p (.ref i) (.ref j)) (fo : IsPair s.heap o m n)
    (f1 : s.heap.IsStrIter i (strIterType x) x t k) (f2 : s.heap.IsStrIter j (strIterType y) y u k) (l1 : k < x.cps.size) (l2 : k < y.cps.size)
    (done : ∀ g tk c d v1 v2, x.cps[k]? = some c → y.cps[k]? = some d → IsZip g z p o (rawInt s.heap.objs.size) → IsPair g o (.str ⟨#[c]⟩ v1) (.str ⟨#[d]⟩ v2) →
      g.IsStrIter i (strIterType x) x t (k + 1) → g.IsStrIter j (strIterType y) y u (k + 1) → IsPair g s.heap.objs.size (.str ⟨#[c]⟩ v1) (.str ⟨#[d]⟩ v2) → g.objs.size = s.heap.objs.size + 1 →
      (∀ e ob, e ≠ z → e ≠ o → e ≠ i → e ≠ j → s.heap.get? e = some ob → g.get? e = some ob) → Q (some (.ref s.heap.objs.size)) { s with heap := g, toks := tk }) :
    wpAny (model prog w) A (pyNext (.ref z)) Q E s := by
  have ty : s.TypeIs (.ref z) "zip" := ⟨_, fz, rfl⟩
  unfold pyNext
  exact wpAny_bind (wpAny_attempt (wpAny_callSpecial?_slot (name := Str.ofString "__next__") ty F.slot_zip_next (wpAny_call_entry F.slot_zip_next ty F.entry_zip_next
    (zs_item hA D fz fp fo f1 f2 l1 l2 fun g tk c d v1 v2 a0 a1 a2 a3 a4 a5 a6 a7 a8 => wpAny_pure (done g tk c d v1 v2 a0 a1 a2 a3 a4 a5 a6 a7 a8)) (F.args_zip_next_1 _))))
theorem zs_none {z p o i j : Addr} {x y : Str} {t u : Tok} {m n : Value} {Q : Option Value → Shared → Prop} (hA : A.handled = none) (D : Five z p o i j)
    (fz : IsZip s.heap z p o .none) (fp : IsPair s.heap p (.ref i) (.ref j)) (fo : IsPair s.heap o m n) (f1 : s.heap.IsStrIter i (strIterType x) x t x.cps.size)
    (done : ∀ g, (∀ c ob, c ≠ z → c ≠ o → c ≠ i → c ≠ j → s.heap.get? c = some ob → g.get? c = some ob) → Q none { s with heap := g }) : wpAny (model prog w) A (pyNext (.ref z)) Q E s := by
  have ty : s.TypeIs (.ref z) "zip" := ⟨_, fz, rfl⟩
  unfold pyNext
  refine wpAny_bind (wpAny_attempt (wpAny_callSpecial?_slot (name := Str.ofString "__next__") ty F.slot_zip_next (wpAny_call_entry F.slot_zip_next ty F.entry_zip_next
    (zs_stop (y := y) (u := u) hA D fz fp fo f1 fun g e kp he => ?_) (F.args_zip_next_1 _))))
  obtain ⟨ob, ho, hc⟩ := he
  exact wpAny_bind (wpAny_isInstance (T := "StopIteration") (b := true) ⟨ob, ho, hc⟩ isSubtype_stop (wpAny_pure (done _ kp)))
end
/-! the five objects of a zip of two texts that begins -/
abbrev zs1 (h : Heap) (x : Str) (t : Tok) : Heap := h.push { cls := .type (strIterType x), data := .fields #[.str x t, .int 0 0] }
abbrev zs2 (h : Heap) (x : Str) (t : Tok) (y : Str) (u : Tok) : Heap := (zs1 h x t).push { cls := .type (strIterType y), data := .fields #[.str y u, .int 0 0] }
abbrev zs3 (h : Heap) (x : Str) (t : Tok) (y : Str) (u : Tok) : Heap := (zs2 h x t y u).push { cls := .type "tuple", data := .seq #[.ref h.objs.size, .ref (zs1 h x t).objs.size] }
abbrev zs4 (h : Heap) (x : Str) (t : Tok) (y : Str) (u : Tok) : Heap := (zs3 h x t y u).push { cls := .type "tuple", data := .seq #[.none, .none] }
abbrev zs5 (h : Heap) (x : Str) (t : Tok) (y : Str) (u : Tok) : Heap := (zs4 h x t y u).push { cls := .type "zip", data := .fields #[.none, .bool false, .bool false, .ref (zs2 h x t y u).objs.size, .ref (zs3 h x t y u).objs.size] }
theorem meets_zs (x : Str) (t : Tok) (y : Str) (u : Tok) :
    Meets (Builtin.«zip.__new__» ⟨[.type "zip", .str x t, .str y u], []⟩) (fun _ R s => R (.ok (.ret (.ref (zs4 s.heap x t y u).objs.size))) { s with heap := zs5 s.heap x t y u }) :=
  .of_wp fun prog w A R s h => by
    obtain ⟨hp, g, d, tk, os⟩ := s
    have hsub := sub_zip
    wp_walk using wpAny_pyIter_strU, wpAny_pyIter_strU
    exact ⟨_, rfl, h⟩
section
variable {prog : Program} {w : World} {A : Around} {E : Value → Shared → Prop} {s : Shared}
theorem call_zs {x y : Str} {t u : Tok} {Q : Value → Shared → Prop}
    (h : ∀ g, IsZip g (s.heap.objs.size + 4) (s.heap.objs.size + 2) (s.heap.objs.size + 3) .none → IsPair g (s.heap.objs.size + 2) (.ref s.heap.objs.size) (.ref (s.heap.objs.size + 1)) →
      IsPair g (s.heap.objs.size + 3) .none .none → g.IsStrIter s.heap.objs.size (strIterType x) x t 0 → g.IsStrIter (s.heap.objs.size + 1) (strIterType y) y u 0 →
      (∀ c o, s.heap.get? c = some o → g.get? c = some o) → Q (.ref (s.heap.objs.size + 4)) { s with heap := g }) :
    wpAny (model prog w) A (call (.type "zip") [.str x t, .str y u]) Q E s := by
  refine callType_new F.called_zip (by decide) (F.typeCall_zip_2 _ _) (F.newCall_zip_2 _ _) (fun obj => F.args_object_init_3 obj _ _) F.entry_zip_new (meets_zs x t y u) ?_
  have a1 : (zs1 s.heap x t).objs.size = s.heap.objs.size + 1 := Heap.size_push ..
  have a2 : (zs2 s.heap x t y u).objs.size = s.heap.objs.size + 2 := by rw [Heap.size_push, a1]
  have a3 : (zs3 s.heap x t y u).objs.size = s.heap.objs.size + 3 := by rw [Heap.size_push, a2]
  have a4 : (zs4 s.heap x t y u).objs.size = s.heap.objs.size + 4 := by rw [Heap.size_push, a3]
  have b5 : (zs5 s.heap x t y u).get? (zs4 s.heap x t y u).objs.size = some _ := Heap.get?_push_size _ rfl
  have b4 : (zs5 s.heap x t y u).get? (zs3 s.heap x t y u).objs.size = some _ := Heap.get?_push_of_some _ (Heap.get?_push_size _ rfl)
  have b3 : (zs5 s.heap x t y u).get? (zs2 s.heap x t y u).objs.size = some _ := Heap.get?_push_of_some _ (Heap.get?_push_of_some _ (Heap.get?_push_size _ rfl))
  have b2 : (zs5 s.heap x t y u).get? (zs1 s.heap x t).objs.size = some _ := Heap.get?_push_of_some _ (Heap.get?_push_of_some _ (Heap.get?_push_of_some _ (Heap.get?_push_size _ rfl)))
  have b1 : (zs5 s.heap x t y u).get? s.heap.objs.size = some _ := Heap.get?_push_of_some _ (Heap.get?_push_of_some _ (Heap.get?_push_of_some _ (Heap.get?_push_of_some _ (Heap.get?_push_size _ rfl))))
  show _ ∧ _
  rw [a2, a3, a4] at b5
  rw [a1, a2] at b3
  rw [a3] at b4
  rw [a1] at b2
  rw [a4]
  exact ⟨⟨_, b5, rfl⟩, h _ b5 b3 b4 ⟨_, b1, rfl, rfl⟩ ⟨_, b2, rfl, rfl⟩ fun c ob r =>
    Heap.get?_push_of_some _ (Heap.get?_push_of_some _ (Heap.get?_push_of_some _ (Heap.get?_push_of_some _ (Heap.get?_push_of_some _ r))))⟩
end
open PySem.Spec PyProof.Rows L2
/-- the signs of x and y, two texts of one length, in new pairs -/
def ItzS (x y : Str) : It := ⟨fun i _ => i < x.cps.size ∧ i < y.cps.size, fun i H v H' => ∃ T c d, v = .ref T ∧ H T = none ∧ H' = upd H T (.tup [.str ⟨#[c]⟩, .str ⟨#[d]⟩]) ∧ x.cps[i]? = some c ∧ y.cps[i]? = some d, fun i _ => i = x.cps.size⟩
theorem turn_zs {P : Program} {w : World} {K : PySem.W.Frag} {elts : List Expr} {kk : Nat} {tpos : Pos} {x y : Str} {t u : Tok} {z p o i j : Addr} (D : Five z p o i j) :
    Turn P w K (.Tuple elts kk tpos) (ItzS x y) [z, p, o, i, j] z (fun k h => IsZip h z p o .none ∧ IsPair h p (.ref i) (.ref j) ∧ (∃ m n, IsPair h o m n) ∧ h.IsStrIter i (strIterType x) x t k ∧ h.IsStrIter j (strIterType y) y u k) where
  mem := by simp
  obj := fun k h st c hc => by
    obtain ⟨fz, fp, ⟨m, n, fo⟩, ⟨oi, ei, _, di⟩, ⟨oj, ej, _, dj⟩⟩ := st
    have e' : c = z ∨ c = p ∨ c = o ∨ c = i ∨ c = j := by simpa using hc
    rcases e' with q | q | q | q | q
    · rw [q]; exact ⟨_, fz, fun v q => nomatch q⟩
    · rw [q]; exact ⟨_, fp, fun v q => nomatch q⟩
    · rw [q]; exact ⟨_, fo, fun v q => nomatch q⟩
    · rw [q]; exact ⟨oi, ei, fun v q => by rw [di] at q; cases q⟩
    · rw [q]; exact ⟨oj, ej, fun v q => by rw [dj] at q; cases q⟩
  keep := fun k h h' st kp => by
    obtain ⟨fz, fp, ⟨m, n, fo⟩, f1, f2⟩ := st
    exact ⟨kp z (by simp) _ fz, kp p (by simp) _ fp, ⟨m, n, kp o (by simp) _ fo⟩, iter_at f1 fun ob q => kp i (by simp) ob q, iter_at f2 fun ob q => kp j (by simp) ob q⟩
  item := by
    intro X hP hw hK hc k pins s σ H E I hf st hg
    subst hP hw hK
    obtain ⟨fz, fp, ⟨m, n, fo⟩, f1, f2⟩ := st
    obtain ⟨l1, l2⟩ := hg
    have zl : z < s.heap.objs.size := Heap.lt_size fz
    refine zs_next (I.ok.hd hc) D fz fp fo f1 f2 l1 l2 fun g tk c d v1 v2 hcx hdy z' o' i' j' pr hsz kp => ?_
    refine ⟨_, rfl, wpAny_letOwnedTupleGo_zip (s := { s with heap := g, toks := tk }) z' fun g2 z2 sb => ?_⟩
    have pr2 : g2.get? s.heap.objs.size = some { cls := .type "tuple", data := .seq #[.str ⟨#[c]⟩ v1, .str ⟨#[d]⟩ v2] } := (sb.2 _ (Nat.ne_of_gt zl)).trans pr
    have new : ObjOk X.prog X.w (upd H s.heap.objs.size (.tup [.str ⟨#[c]⟩, .str ⟨#[d]⟩])) g2 s.heap.objs.size (.tup [.str ⟨#[c]⟩, .str ⟨#[d]⟩]) :=
      ⟨by show 2 ≤ sizeLine; decide, [.str ⟨#[c]⟩ v1, .str ⟨#[d]⟩ v2], .cons ⟨_, rfl⟩ (.cons ⟨_, rfl⟩ .nil), ⟨_, pr2, rfl, _, rfl⟩⟩
    have J : Inv X pins σ (upd H s.heap.objs.size (.tup [.str ⟨#[c]⟩, .str ⟨#[d]⟩])) { s with heap := g2, toks := tk } :=
      I.turnedNew (ch := [z, p, o, i, j]) (fun e ob hb q => (sb.2 e (fun q' => hb (by simp [q']))).trans (kp e ob (fun q' => hb (by simp [q'])) (fun q' => hb (by simp [q'])) (fun q' => hb (by simp [q'])) (fun q' => hb (by simp [q'])) q)) hf (Nat.le_refl _) new
    refine ⟨.ref s.heap.objs.size, _, J, rfl, ⟨_, c, d, rfl, I.hok.fresh (Nat.le_refl _), rfl, hcx, hdy⟩, ⟨z2, ?_, ⟨.str ⟨#[c]⟩ v1, .str ⟨#[d]⟩ v2, ?_⟩, ?_, ?_⟩, fun e hem => ?_⟩
    · exact (sb.2 _ D.pz).trans (kp _ _ D.pz D.po D.pa D.pb fp)
    · exact (sb.2 _ D.oz).trans o'
    · exact iter_at i' fun ob q => (sb.2 _ D.az).trans q
    · exact iter_at j' fun ob q => (sb.2 _ D.bz).trans q
    · have hlt : e < s.heap.objs.size := by
        have e' : e = z ∨ e = p ∨ e = o ∨ e = i ∨ e = j := by simpa using hem
        rcases e' with q | q | q | q | q
        · rw [q]; exact zl
        · rw [q]; exact Heap.lt_size fp
        · rw [q]; exact Heap.lt_size fo
        · rw [q]; exact iter_lt f1
        · rw [q]; exact iter_lt f2
      rw [upd_ne (Nat.ne_of_lt hlt)]
      exact (hf e hem).1
  done := by
    intro X hP hw hK hc k pins s σ H E I hf st hg
    subst hP hw hK
    obtain ⟨fz, fp, ⟨m, n, fo⟩, f1, f2⟩ := st
    have hk : k = x.cps.size := hg
    subst hk
    exact zs_none (y := y) (u := u) (I.ok.hd hc) D fz fp fo f1 fun g kp => ⟨rfl, I.turnedL (t' := s.toks) (ch := [z, p, o, i, j]) (fun e ob hb q =>
      kp e ob (fun q' => hb (by simp [q'])) (fun q' => hb (by simp [q'])) (fun q' => hb (by simp [q'])) (fun q' => hb (by simp [q'])) q) hf⟩
  self := fun A k s Q E st h => wpAny_pyIter_zip st.1 h
section
variable {X : Cx}
theorem five_new (n : Nat) : Five (n + 4) (n + 2) (n + 3) n (n + 1) := ⟨(fun h => absurd (show (n + 2 : Nat) = n + 4 from h) (by omega)), (fun h => absurd (show (n + 3 : Nat) = n + 4 from h) (by omega)), (fun h => absurd (show (n : Nat) = n + 4 from h) (by omega)), (fun h => absurd (show (n + 1 : Nat) = n + 4 from h) (by omega)), (fun h => absurd (show (n + 2 : Nat) = n + 3 from h) (by omega)), (fun h => absurd (show (n + 2 : Nat) = n from h) (by omega)), (fun h => absurd (show (n + 2 : Nat) = n + 1 from h) (by omega)), (fun h => absurd (show (n + 3 : Nat) = n from h) (by omega)), (fun h => absurd (show (n + 3 : Nat) = n + 1 from h) (by omega)), (fun h => absurd (show (n : Nat) = n + 1 from h) (by omega))⟩
def iZipS (ta : TA) : TI := fun σ H R => ta σ H fun vs H1 => ∃ x y, vs = [.str x, .str y] ∧ R (ItzS x y) H1
theorem pi_zipS {e e2 : Expr} {ta : TA} {p pos tpos : Pos} {elts : List Expr} {kk : Nat} (hg : Gl X "zip") (hm : X.mg "zip" = none) (ha : PA X [e, e2] ta)
    (hs : starEach [e, e2] X.env = (false, eval e X.env) :: starEach [e2] X.env := by rfl) (hpl : (backTo pos (starEach [e2] X.env)).any (·.1) = false := by rfl) :
    PI X (.Tuple elts kk tpos) (.Call (.Name "zip" p) [e, e2] [] pos) (iZipS ta) := by
  refine ⟨fun pins s σ H R I h => ?_⟩
  refine Call_ (ld_blt I hg hm PyProof.Rows.boot_zip (PyProof.Rows.callWith_type1 (thn (ha.run pos pins s σ H _ I h) fun us s1 ⟨vs, H1, I1, r1, x, y, ex, q⟩ => ?_) hs hpl))
  subst ex
  cases r1 with
  | cons r rr =>
    cases rr with
    | cons r' rr =>
      cases rr
      obtain ⟨t, rfl⟩ := r
      obtain ⟨u, rfl⟩ := r'
      refine call_zs fun g fz fp fo f1 f2 kp => wpAny_pyIter_zip fz ?_
      have J : Inv X pins σ H1 { s1 with heap := g } := I1.kept (t' := s1.toks) kp
      refine ⟨s1.heap.objs.size + 4, [s1.heap.objs.size + 4, s1.heap.objs.size + 2, s1.heap.objs.size + 3, s1.heap.objs.size, s1.heap.objs.size + 1], _, _, H1, rfl, J, turn_zs (t := t) (u := u) (five_new s1.heap.objs.size), ⟨fz, fp, ⟨_, _, fo⟩, f1, f2⟩, fun c hcm => ?_, q⟩
      have e' : c = s1.heap.objs.size + 4 ∨ c = s1.heap.objs.size + 2 ∨ c = s1.heap.objs.size + 3 ∨ c = s1.heap.objs.size ∨ c = s1.heap.objs.size + 1 := by simpa using hcm
      have hle : s1.heap.objs.size ≤ c := by rcases e' with z | z | z | z | z <;> rw [z] <;> omega
      exact I1.fpOk hle (I1.hok.fresh hle)
theorem walk_zipS {x y : Str} (h : x.cps.size = y.cps.size) : Walk (ItzS x y) x.cps.size (fun _ => True) (fun i H v H' => ∃ T c d, v = .ref T ∧ H T = none ∧ H' = upd H T (.tup [.str ⟨#[c]⟩, .str ⟨#[d]⟩]) ∧ x.cps[i]? = some c ∧ y.cps[i]? = some d) where
  goes := fun i H hi _ => ⟨hi, by omega⟩
  stops := fun H _ => rfl
  yields := fun i H v H' _ _ q => q
end
end WR
namespace WR
open PySem PySem.Spec PyProof.Rows L2
section
variable {X : Cx}
/-! ### x in a tuple of data -/
def rInTup (K : PySem.W.Frag) : R2 := fun x y H Q => ∃ d ds, Dp K H x d ∧ Dp K H y (.tuple ds) ∧ PyData.canLayAll0 ds = true ∧ d.canLay0 = true ∧ PyData.depthAll ds ≤ 40 ∧ Q (.bl (ds.any fun z => PyData.eqv z d)) H
theorem op_inTup (hu : X.A.units + 64 < cLine) : OpR X (compareOp .In) (rInTup X.K) := by
  intro pins s σ H x y v u Q I rx ry h
  obtain ⟨d, ds, hd, he, c1, c2, dep, q⟩ := h
  obtain ⟨as, r1⟩ := Dp.reads I d x v hd rx
  obtain ⟨bs, r2⟩ := Dp.reads I (.tuple ds) y u he ry
  exact SeqAt.in_tuple_reads r2 r1 c1 c2 (by omega) ⟨.bl _, H, I, rfl, q⟩
/-! ### text[::-1] -/
def tRevS (te : TE) : TE := fun σ H Q => te σ H fun x H1 => ∃ z : Str, x = .str z ∧ z.length ≤ sizeLine ∧ Q (.str (Txt.sliceBy z none none (-1, 0))) H1
theorem pe_revS {e : Expr} {te : TE} {k : Nat} {p1 p2 p3 pos : Pos} (he : PE X e te) : PE X (.Subscript e (.Slice none none (some (.UnaryOp .USub (.Constant (.int 1) k p1) p2)) p3) pos) (tRevS te) := by
  refine ⟨fun pins s σ H Q I h => Subscript_ (thn (he.run pins s σ H _ I h) fun v s1 ⟨x, H1, I1, r1, z, ex, hz, q⟩ => ?_)⟩
  subst ex
  obtain ⟨t, rfl⟩ := r1
  have st1 : PO X (some (.UnaryOp .USub (.Constant (.int 1) k p1) p2)) (tPart (tUn (rU fun i => .int (-i)) (tC (.int 1)))) := po_some (pe_un un_neg pe_int)
  refine wpAny_Slice (thn (po_none.run pins s1 σ H1 (fun o G => o = none ∧ G = H1) I1 ⟨rfl, rfl⟩) fun vl s2 ⟨l, H2, I2, pl, el, g2⟩ => ?_)
  subst el g2
  refine thn (po_none.run pins s2 σ H2 (fun o G => o = none ∧ G = H2) I2 ⟨rfl, rfl⟩) fun vu s3 ⟨u, H3, I3, pu, eu, g3⟩ => ?_
  subst eu g3
  refine thn (st1.run pins s3 σ H3 (fun o G => o = some (-1) ∧ G = H3) I3 ⟨1, rfl, -1, rfl, rfl, rfl⟩) fun vs s4 ⟨o, H4, I4, ps, eo, g4⟩ => ?_
  subst eo g4
  have J : Inv X pins σ H4 { s4 with heap := s4.heap.push { cls := .type "slice", data := .fields #[vl, vu, vs] } } := I4.kept (t' := s4.toks) fun b ob r => Heap.get?_push_of_some _ r
  obtain ⟨l', rfl, e1⟩ := IsPart.raw pl
  obtain ⟨u', rfl, e2⟩ := IsPart.raw pu
  obtain ⟨o', rfl, e3⟩ := IsPart.raw ps
  show wpAny (model X.prog X.w) X.A (subscriptTail e (.Slice none none (some (.UnaryOp .USub (.Constant (.int 1) k p1) p2)) p3) (.str z t) (.ref s4.heap.objs.size)) (EP X pins σ Q) X.xe _
  have n1 : l' = none := by cases l' with | none => rfl | some q => exact nomatch e1
  have n2 : u' = none := by cases u' with | none => rfl | some q => exact nomatch e2
  subst n1 n2
  obtain ⟨w', rfl⟩ : ∃ w' : Tok, o' = some (-1, w') := by
    cases o' with
    | none => exact nomatch e3
    | some r =>
      obtain ⟨r1, r2⟩ := r
      exact ⟨r2, by rw [show r1 = -1 from Option.some.inj e3]⟩
  refine tail_any (ops := [.str z t, .ref s4.heap.objs.size]) (typeIs_str _ _ _) F.slot_str_getitem.lookup ?_ (by with_unfolding_all rfl)
  refine wpAny_getItem_str_slice (l := none) (u := none) (st := some (-1, w')) ⟨_, Heap.get?_push_size _ rfl, rfl, rfl⟩ rfl ?_
  refine post_val_or_str ⟨Nat.le_trans (Txt.sliceBy_le z _ _ (-1, w') (show (-1 : Int) ≠ 0 by decide)) hz, fun t' c => ⟨.str (Txt.sliceBy z none none (-1, 0)), H4, J.tok _, ⟨t', rfl⟩, q⟩⟩
end
end WR
/-! strip, rstrip of given signs, over lists of codes -/
namespace WR
open PySem PySem.Spec PyProof.Rows L2
theorem S_getD (l : List Nat) (k : Nat) : (S l).cps.getD k 0 = l.getD k 0 := by
  simp [SX.S, List.getD, Array.getD]
  by_cases h : k < l.length <;> simp [h]
theorem S_cont (m : List Nat) (c : Nat) : (S m).cps.contains c = decide (c ∈ m) := by
  simp [SX.S]
theorem S_sub (l : List Nat) (a b : Nat) : PySem.Builtin.Str.strSub (S l) a b = S ((l.drop a).take (b - a)) := by
  unfold PySem.Builtin.Str.strSub
  simp [SX.S, List.extract_eq_take_drop]
theorem strip_dec (l m : List Nat) : decide (V.str (Txt.stripChars (S l) (S m)) = V.str (Str.ofString "")) = decide (∀ c ∈ l, c ∈ m) := by
  have e0 : (Str.ofString "") = S [] := ofs_nil
  rw [e0]
  have e1 : Txt.stripChars (S l) (S m) = PySem.Builtin.Str.strSub (S l) (stripLo (S m).cps.contains true (S l)) (stripHi (S m).cps.contains true (S l) (stripLo (S m).cps.contains true (S l))) := stripBy_eq _ _ _ _
  rw [e1, S_sub, S_dec]
  have lf := lo_facts (S m).cps.contains (S l)
  have hf := hi_facts (S m).cps.contains (S l) _ lf.1
  generalize stripLo (S m).cps.contains true (S l) = lo at lf hf
  generalize stripHi (S m).cps.contains true (S l) lo = hi at hf
  rw [S_len] at lf hf
  obtain ⟨a1, a2, a3⟩ := lf
  obtain ⟨b1, b2, b3, b4⟩ := hf
  have w1 : ∀ k, (S m).cps.contains ((S l).cps.getD k 0) = decide (l.getD k 0 ∈ m) := fun k => by rw [S_getD, S_cont]
  replace a2 : ∀ k, k < lo → l.getD k 0 ∈ m := fun k hk => of_decide_eq_true ((w1 k).symm.trans (a2 k hk))
  replace b3 : ∀ k, hi ≤ k → k < l.length → l.getD k 0 ∈ m := fun k h1 h2 => of_decide_eq_true ((w1 k).symm.trans (b3 k h1 h2))
  replace a3 : lo = l.length ∨ ¬ l.getD lo 0 ∈ m := a3.imp id fun q => of_decide_eq_false ((w1 lo).symm.trans q)
  rw [Bool.eq_iff_iff, decide_eq_true_iff, decide_eq_true_iff]
  have len : ((l.drop lo).take (hi - lo)).length = hi - lo := by simp; omega
  constructor
  · intro h c hc
    rw [h] at len
    have : hi = lo := by simp at len; omega
    subst this
    obtain ⟨k, hk, rfl⟩ := List.mem_iff_getElem.mp hc
    have g : l.getD k 0 = l[k] := by simp [List.getD, hk]
    rw [← g]
    by_cases z : k < hi
    · exact a2 k z
    · exact b3 k (by omega) hk
  · intro h
    have : lo = l.length := by
      rcases a3 with z | z
      · exact z
      · by_cases y : lo < l.length
        · refine absurd (h (l.getD lo 0) ?_) z
          have g : l.getD lo 0 = l[lo] := by simp [List.getD, y]
          rw [g]
          exact List.getElem_mem y
        · omega
    refine List.length_eq_zero_iff.mp ?_
    rw [len]
    omega
/-- what rstrip('f') leaves -/
theorem rstrip_cells (l : List Nat) : ∃ hi, hi ≤ l.length ∧ Txt.rstripChars (S l) (S [102]) = S (l.take hi) ∧ ∀ k, hi ≤ k → k < l.length → l.getD k 0 = 102 := by
  have e1 : Txt.rstripChars (S l) (S [102]) = PySem.Builtin.Str.strSub (S l) (stripLo (S [102]).cps.contains false (S l)) (stripHi (S [102]).cps.contains true (S l) (stripLo (S [102]).cps.contains false (S l))) := stripBy_eq _ _ _ _
  have e2 : stripLo (S [102]).cps.contains false (S l) = 0 := rfl
  rw [e1, e2, S_sub]
  have hf := hi_facts (S [102]).cps.contains (S l) 0 (Nat.zero_le _)
  generalize stripHi (S [102]).cps.contains true (S l) 0 = hi at hf
  rw [S_len] at hf
  obtain ⟨b1, b2, b3, b4⟩ := hf
  refine ⟨hi, b2, by simp, fun k h1 h2 => ?_⟩
  have w1 : (S [102]).cps.contains ((S l).cps.getD k 0) = decide (l.getD k 0 ∈ [102]) := by rw [S_getD, S_cont]
  have := of_decide_eq_true (w1.symm.trans (b3 k h1 h2))
  simpa using this
end WR
namespace WM
theorem S_zero (k : Nat) : ∀ (l : List Nat) (p : Nat), (∀ c ∈ l, c = 102) → S k p l = 0
  | [], _, _ => rfl
  | c :: l, p, h => by
    show lack c * p ^ k + S k (p + 1) l = 0
    rw [S_zero k l (p + 1) (fun d hd => h d (List.mem_cons_of_mem _ hd)), h c List.mem_cons_self]
    show lack 102 * _ + 0 = 0
    rw [show lack 102 = 0 from rfl]
    omega
theorem S_cat (k : Nat) : ∀ (a b : List Nat) (p : Nat), S k p (a ++ b) = S k p a + S k (p + a.length) b
  | [], b, p => by simp [S]
  | c :: a, b, p => by
    show lack c * p ^ k + S k (p + 1) (a ++ b) = lack c * p ^ k + S k (p + 1) a + S k (p + (a.length + 1)) b
    rw [S_cat k a b (p + 1), Nat.add_assoc p 1, Nat.add_comm 1]
    omega
theorem S_strip {k p : Nat} {l : List Nat} {hi : Nat} (h : ∀ j, hi ≤ j → j < l.length → l.getD j 0 = 102) : S k p (l.take hi) = S k p l := by
  have e := S_cat k (l.take hi) (l.drop hi) p
  rw [List.take_append_drop] at e
  rw [e, S_zero k (l.drop hi) _ (fun c hc => ?_)]
  · omega
  · obtain ⟨j, hj, rfl⟩ := List.mem_iff_getElem.mp hc
    rw [List.length_drop] at hj
    have := h (hi + j) (by omega) (by omega)
    simp only [List.getElem_drop]
    rw [← this]
    simp [List.getD, show hi + j < l.length by omega]
end WM
namespace WR
open PySem PySem.Spec PyProof.Rows L2
/-! ### defs of the program: a promise whatever is under way, perhaps with what they raise -/
structure Cf (CX : CXT) (P : Program) (w : World) (K : PySem.W.Frag) (mg : Str → Option Value) (base : Heap) (k : Nat) (x : Str) (ps : List Str) (sp : Sp) : Prop where
  ex : ∃ (f : Addr) (fd : FuncData), FnOk P w K mg base CX k f fd ps sp ∧ mg x = some (.ref f) ∧ PySem.W.keepIn K (.ref f) = true ∧
    (∀ (s : Shared) (us : List Value), us.length = ps.length → BindsTo s fd ⟨us, []⟩ (ps.zip us)) ∧ ∀ (s : Shared) (us : List Value), us.length = ps.length → BindsTo s fd ⟨[], ps.zip us⟩ (ps.zip us)
abbrev CXr (P : Program) (w : World) : CXT := L2.CX P w
section
variable {CX : CXT} {P : Program} {w : World} {K : PySem.W.Frag} {mg : Str → Option Value} {base : Heap}
theorem Cf.g {k : Nat} {x : Str} {ps : List Str} {sp : Sp} (c : Cf CX0 P w K mg base k x ps sp) : Cg P w K mg base k x ps sp := by
  obtain ⟨f, fd, F, r⟩ := c.ex
  exact ⟨f, fd, .of F, r⟩
theorem Cf.mono {j k : Nat} {x : Str} {ps : List Str} {sp : Sp} (c : Cf CX P w K mg base j x ps sp) (h : j ≤ k) : Cf CX P w K mg base k x ps sp := by
  obtain ⟨f, fd, F, r⟩ := c.ex
  exact ⟨f, fd, F.mono h, r⟩
/-- by the body -/
theorem cf_of {x : Str} {st : Stmt} {f : Addr} {fd : FuncData} {N ps : List Str} {k : Nat} {sp : Sp} (F : FD K x st f fd) (hm : mg x = some (.ref f)) (S : FnScope N ps (defScope st)) (len : ∀ vs H Q E, sp vs H Q E → vs.length = ps.length)
    (b1 : ∀ (kV dc pm : Value) (an : Option Addr) (cdv ct : Value) (us : List Value), us.length = ps.length → bindArgs (PySem.W.fnOf x x (defArgs st) (defBody st) (defScope st) .none kV dc pm an cdv ct) ⟨us, []⟩ = pure (ps.zip us))
    (b2 : ∀ (kV dc pm : Value) (an : Option Addr) (cdv ct : Value) (us : List Value), us.length = ps.length → bindArgs (PySem.W.fnOf x x (defArgs st) (defBody st) (defScope st) .none kV dc pm an cdv ct) ⟨[], ps.zip us⟩ = pure (ps.zip us))
    (hb : ∀ (cdv : Value) (A : Around) (outer : List Env) (s : Shared) (H : Hp) (vs : List V) (Q : VK) (E : XK), Room k (A.deeper (envOfC x (defScope st) s.heap.objs.size f cdv)) → sp vs H Q E →
      ∃ t, PSs (cxOf CX P w K mg base N x (defScope st) f cdv A outer s H E) (defBody st) t ∧ t { nx := fun _ H' => Q .non H', rt := Q } (start N vs) H) : Cf CX P w K mg base (k + 1) x ps sp := by
  have ok := F.ok (P := P) (w := w) (mg := mg) (base := base) (CX := CX) S len hb
  have kp := F.kp
  obtain ⟨oc, od, dV, kV, dc, pm, an, cdv, ct, sl, rfl, lk, hcd, hD, _⟩ := F.ex
  rcases hD with ⟨_, rfl⟩ | ⟨e, _⟩
  · exact ⟨f, _, ok, hm, kp, fun s us hl => .of_eq (b1 kV dc pm an cdv ct us hl), fun s us hl => .of_eq (b2 kV dc pm an cdv ct us hl)⟩
  · exact absurd rfl e
end
section
variable {X : Cx} {x : Str} {ps : List Str} {k j : Nat} {sp : Sp} {p pos : Pos} {e : Expr} {es : List Expr} {t : TA}
/-- f(e, ..), f a def of the program that raises nothing here -/
theorem pe_f (c : Cf CX0 X.prog X.w X.K X.mg X.base k x ps sp) (hr : Room j X.A) (hk : k ≤ j) (hg : Gl X x) (ha : PA X (e :: es) t) (hdb : (x == ("__debug__" : Str)) = false := by decide)
    (he : starEach (e :: es) X.env = (false, eval e X.env) :: starEach es X.env := by rfl) (hpl : (backTo pos (starEach es X.env)).any (·.1) = false := by rfl) : PE X (.Call (.Name x p) (e :: es) [] pos) (tCallP sp t) := by
  obtain ⟨f, fd, F, hm, kp, b1, _⟩ := c.ex
  refine ⟨fun pins s σ H Q I h => ?_⟩
  have hb : Binds X.K fd ps [] := fun s us _ hl => by
    rw [List.append_nil] at hl ⊢
    exact b1 s us hl
  refine (pe_call F (hr.mono hk) hg hm kp hb .nil pass0 ha hdb he hpl).run pins s σ H Q I ?_
  show t σ H fun vs H1 => sp (vs ++ []) H1 Q E0
  simp only [List.append_nil]
  exact h
/-- the same, E what is wished of an exception; at the slots -/
def tCallW (sp : Sp) (W : WX) (t : TA) : TE := fun σ H Q => t σ H fun vs H1 => sp vs H1 Q fun cls d H2 => W cls d σ H2
theorem pe_fR {W : WX} (c : Cf (CXr X.prog X.w) X.prog X.w X.K X.mg X.base k x ps sp) (hr : Room j X.A) (hk : k ≤ j) (tk : Takes X W) (hg : Gl X x) (ha : PA X (e :: es) t) (hdb : (x == ("__debug__" : Str)) = false := by decide)
    (he : starEach (e :: es) X.env = (false, eval e X.env) :: starEach es X.env := by rfl) (hpl : (backTo pos (starEach es X.env)).any (·.1) = false := by rfl) : PE X (.Call (.Name x p) (e :: es) [] pos) (tCallW sp W t) := by
  obtain ⟨f, fd, F, hm, kp, b1, _⟩ := c.ex
  have hb : Binds X.K fd ps [] := fun s us _ hl => by
    rw [List.append_nil] at hl ⊢
    exact b1 s us hl
  refine ⟨fun pins s σ H Q I h => ?_⟩
  refine wpAny_Call_Name_kw (ld_glob I hg hm ?_ hdb)
  refine PySem.W.callWith_K (h₀ := X.base) I.ok.mod.kin kp (thn (ha.run pos pins s σ H _ I h) fun us s1 hq => ?_) he hpl
  obtain ⟨vs, H1, I1, r, q⟩ := hq
  exact ⟨I1.kIn, run_fnS F (hr.mono hk) hb (passAt tk σ) I1 r q⟩
/-- f(k = v, ..), raising -/
def tCallWN (sp : Sp) (W : WX) (tk : TA) : TE := fun σ H Q => tk σ H fun zs H2 => sp zs H2 Q fun cls d H3 => W cls d σ H3
theorem pe_fRN {W : WX} {kws : List Keyword} {tw : TA} (c : Cf (CXr X.prog X.w) X.prog X.w X.K X.mg X.base k x ps sp) (hr : Room j X.A) (hk : k ≤ j) (tk : Takes X W) (hg : Gl X x) (hkw : PK X kws tw)
    (hall : (backToKw pos (keywordEach kws X.env)).all (·.1.isSome) = true := by rfl) (hks : (backToKw pos (keywordEach kws X.env)).filterMap (·.1) = ps := by rfl) (hdb : (x == ("__debug__" : Str)) = false := by decide)
    (hpl : ((backTo pos (starEach [] X.env)).any (·.1) || (backToKw pos (keywordEach kws X.env)).any (·.1.isNone)) = false := by rfl) : PE X (.Call (.Name x p) [] kws pos) (tCallWN sp W tw) := by
  obtain ⟨f, fd, F, hm, kp, _, b2⟩ := c.ex
  refine ⟨fun pins s σ H Q I h => wpAny_Call_Name_kw (ld_glob I hg hm ?_ hdb)⟩
  refine PySem.W.callWith_KW0 (h₀ := X.base) I.ok.mod.kin kp hall (thn (hkw.run pos pins s σ H _ I h) fun ws s2 hq => ?_) hpl
  obtain ⟨zs, H2, I2, rz, q2⟩ := hq
  refine ⟨I2.kIn, ?_⟩
  rw [hks]
  have hl : ws.length = ps.length := by rw [← rz.length]; exact F.len _ _ _ _ q2
  refine wpAny_call (codeAny_mono (F.run X.A X.stack s2 H2 ⟨[], ps.zip ws⟩ ws zs Q _ (hr.mono hk) I2.env0 (b2 s2 ws hl) rz q2) fun r s' hq' => ?_)
  cases r with
  | error er => exact passAt (W := W) tk σ pins H2 s2 er s' I2 hq'
  | ok fl => cases fl with
    | ret u => exact I2.after hq'
    | next => exact hq'.elim
    | brk => exact hq'.elim
    | cont => exact hq'.elim
end
/-! ### raise X(v), X an own class with FlashError's __init__ -/
abbrev fldV (v : V) : List (Str × V) := [(("value" : Str), v)]
/-- what __init__ promises -/
def spEinit (K : PySem.W.Frag) : Sp := fun vs H Q _ => ∃ (a C : Addr) (v : V), vs = [.ref a, v] ∧ OexC K C ∧ PySem.W.findIn K (.ref C) "value" = some none ∧ H a = some (exo a C none) ∧
  ∀ dx, H dx = none → dx ≠ a → Q .non (upd (upd H dx (exd dx (fldV v))) a (exo a C (some dx)))
structure ExT (P : Program) (w : World) (K : PySem.W.Frag) (mg : Str → Option Value) (base : Heap) (x : Str) (C : Addr) : Prop where
  oex : OexC K C
  gx : mg x = some (.ref C)
  noV : PySem.W.findIn K (.ref C) "value" = some none
  ini : ∃ (fI : Addr) (fd : FuncData), PySem.W.findIn K (.ref C) "__init__" = some (some (.ref fI)) ∧ PySem.W.typeIn K (.ref fI) = some (.type "function") ∧ FnOk P w K mg base CX0 1 fI fd ["self", "value"] (spEinit K) ∧ Binds K fd ["self", "value"] []
/-- what the making asks, answered -/
theorem rz_ok {P : Program} {w : World} {K : PySem.W.Frag} {mg : Str → Option Value} {base : Heap} {x : Str} {C : Addr} {H1 : Hp} {v : V} {E : XK} (T : ExT P w K mg base x C) (h : ∀ d, H1 d = none → E (.ref C) (some d) (upd H1 d (.xd (fldV v)))) :
    [v].length ≤ 1000 ∧ ∀ a, H1 a = none → spEinit K (.ref a :: ([v] ++ [])) (upd H1 a (exo a C none))
      (fun u H2 => u = .non ∧ ∃ (d : Addr) (fs : List (Str × V)), H2 a = some (exo a C (some d)) ∧ H2 d = some (exd d fs) ∧ H1 d = none ∧ E (.ref C) (some d) (upd (L2.del H2 a) d (.xd fs))) (fun _ _ _ => False) := by
  refine ⟨by show 1 ≤ 1000; decide, fun a ha => ⟨a, C, v, rfl, T.oex, T.noV, upd_same, fun dx hd hne => ⟨rfl, dx, fldV v, upd_same, ?_, ?_, ?_⟩⟩⟩
  · rw [upd_ne hne, upd_same]
  · rw [upd_ne hne] at hd
    exact hd
  · rw [upd_ne hne] at hd
    have e : upd (L2.del (upd (upd (upd H1 a (exo a C none)) dx (exd dx (fldV v))) a (exo a C (some dx))) a) dx (.xd (fldV v)) = upd H1 dx (.xd (fldV v)) := by
      funext b
      by_cases hb : b = dx
      · rw [hb, upd_same, upd_same]
      · rw [upd_ne hb, upd_ne hb]
        by_cases hb2 : b = a
        · rw [hb2, L2.del_same, ha]
        · rw [L2.del_ne hb2, upd_ne hb2, upd_ne hb, upd_ne hb2]
    rw [e]
    exact h dx hd
section
variable {X : Cx} {x : Str} {C : Addr} {k : Nat} {p pos pos2 : Pos} {e : Expr} {ta : TA} {W : WX}
theorem ps_rz (T : ExT X.prog X.w X.K X.mg X.base x C) (hr : Room 2 X.A) (hc : X.calm = true) (tk : Takes X W) (hg : Gl X x) (ha : PA X [e] ta) (hdb : (x == ("__debug__" : Str)) = false := by decide)
    (he : starEach [e] X.env = (false, eval e X.env) :: starEach [] X.env := by rfl) (hpl : (backTo pos (starEach [] X.env)).any (·.1) = false := by rfl) :
    PS X (.Raise (some (.Call (.Name x p) [e] [] pos)) none pos2) (fun _ σ H => tMkO C (spEinit X.K) [] ta σ H fun cls d H' => W cls d σ H') := by
  obtain ⟨fI, fd, i1, i2, F, hb⟩ := T.ini
  exact ps_raise hc tk (pmk_oex T.oex i1 i2 F hr hb .nil (fun _ _ _ _ _ _ _ z => z.elim) hg T.gx ha hdb he hpl)
end
/-! ### an exception that was caught, as an object of ours -/
def ExA (cls : Value) (d : Option Addr) (a : Addr) : HO := .ext fun h => ∃ (oe : Obj) (vs : Array Value), h.get? a = some oe ∧ Zc cls d oe ∧ oe.data = .fields vs
theorem ExA.ok {P : Program} {w : World} {H : Hp} {h : Heap} {a : Addr} {cls : Value} {d : Option Addr} {oe : Obj} {vs : Array Value} (e : h.get? a = some oe) (z : Zc cls d oe) (hd : oe.data = .fields vs) : ObjOk P w H h a (ExA cls d a) :=
  ⟨⟨oe, vs, e, z, hd⟩, ⟨oe, e⟩, fun _ _ ⟨o, v, q, r⟩ k => ⟨o, v, k o q, r⟩⟩
theorem ExA.at_ {P : Program} {w : World} {H : Hp} {h : Heap} {a : Addr} {cls : Value} {d : Option Addr} (hok : HOk P w H h) (e : H a = some (ExA cls d a)) : ∃ (oe : Obj) (vs : Array Value), h.get? a = some oe ∧ Zc cls d oe ∧ oe.data = .fields vs := by
  have z : ObjOk P w H h a (.ext fun h => ∃ (oe : Obj) (vs : Array Value), h.get? a = some oe ∧ Zc cls d oe ∧ oe.data = .fields vs) := hok a _ e
  exact z.1
section
variable {X : Cx} {pins : List (Addr × Obj)} {σ : L2.St} {H : Hp} {s : Shared}
/-- an untracked object that is younger than the def's entry is tracked from now on -/
theorem Inv.trackNow {a : Addr} {o : HO} (I : Inv X pins σ H s) (new : X.s_0.heap.get? a = none) (na : H a = none) (nL : a ≠ X.env.locals) (nC : ∀ y c, X.env.cells.lookup y = some c → c ≠ a) (nP : ∀ p ∈ X.pn ++ pins, p.1 ≠ a)
    (ok : ObjOk X.prog X.w (upd H a o) s.heap a o) : Inv X pins σ (upd H a o) s where
  ok := I.ok
  os := I.os
  bare := I.bare
  base := ⟨I.base.keep, I.base.slot, fun b u q n hx => by
      rw [upd_ne (fun z => by rw [z, new] at q; cases q)]
      exact I.base.free b u q n hx, I.base.there,
    fun b xs q => by have r := I.base.tups b xs q; rw [upd_ne (ne_of_none r na)]; exact r,
    fun b u v q => by have r := I.base.frzs b u v q; rw [upd_ne (ne_of_none r na)]; exact r,
    fun b ps q => by obtain ⟨m, r⟩ := I.base.tbls b ps q; exact ⟨m, by rw [upd_ne (ne_of_none r na)]; exact r⟩⟩
  loc := I.loc
  cell := I.cell
  free := by rw [upd_ne (Ne.symm nL)]; exact I.free
  freeC := fun y c q => by rw [upd_ne (nC y c q)]; exact I.freeC y c q
  pin := fun p hp => by
    obtain ⟨p1, p2, p3⟩ := I.pin p hp
    exact ⟨p1, by rw [upd_ne (nP p hp)]; exact p2, p3⟩
  hok := fun b u q => by
    by_cases hb : b = a
    · subst hb
      rw [upd_same] at q
      cases q
      exact ok
    · rw [upd_ne hb] at q
      exact (I.hok b u q).stay (fun _ _ _ z => z) (fun c z => by rw [upd_ne (ne_of_none z na)]; exact z) fun c xs z => by rw [upd_ne (ne_of_none z na)]; exact z
  len := I.len
theorem Inv.toSuite (I : Inv X pins σ H s) (a : Addr) : Inv (X.suite a (X.pn ++ pins)) [] σ H s :=
  ⟨I.ok.suite _ _, I.os, I.bare, I.base, I.loc, I.cell, I.free, I.freeC, fun p hp => I.pin p (by rw [List.append_nil] at hp; exact hp), I.hok, I.len⟩
theorem Inv.ofSuite {a : Addr} {pn' : List (Addr × Obj)} (I : Inv (X.suite a (X.pn ++ pins)) pn' σ H s) (ok : X.Ok) : Inv X pins σ H s :=
  ⟨ok, I.os, I.bare, I.base, I.loc, I.cell, I.free, I.freeC, fun p hp => I.pin p (List.mem_append_left _ hp), I.hok, I.len⟩
end
/-- the clause 'except x as n', the exception an object of ours from then on -/
def wKeep (K : PySem.W.Frag) (c : Value) (i : Nat) (ts : Addr → TS) (Wo : WX) (D : Ends) : WX := fun cls d σ H =>
  ∃ yes, PySem.W.exmOne K cls c = some yes ∧
    (yes = true → ∀ a, H a = none → ts a ⟨fun τ G => D.nx (τ.set i none) G, D.rt, fun τ G => D.bk (τ.set i none) G, fun τ G => D.ct (τ.set i none) G⟩ (σ.set i (some (.ref a))) (upd H a (ExA cls d a))) ∧ (yes = false → Wo cls d σ H)
section
variable {X : Cx} {x n : Str} {c : Value} {i : Nat} {body su : List Stmt} {b0 : Stmt} {np pos pos' : Pos} {tb : WX → TS} {ts : Addr → TS} {Wo : WX}
theorem ps_try_keep (hst : X.stack = X.env :: X.outer) (hfr : X.env.frame = some X.env.locals) (hex : X.ex = []) (nd : X.N.Nodup) (hi : X.N[i]? = some n) (hloc : X.env.kindOf n = some .local) (hc : Names X x c) (tk : Takes X Wo)
    (hb : ∀ (W : WX) (pn : List (Addr × Obj)) (xe : Value → Shared → Prop), Takes (X.tr pn xe) W → PassesOwn (model X.prog X.w) X.A X.env xe → PSs (X.tr pn xe) body (tb W))
    (hsu : ∀ (a : Addr) (pn : List (Addr × Obj)), PSs (X.suite a pn) (b0 :: su) (ts a)) :
    PS X (.Try body [.ExceptHandler (some (.Name x np)) (some n) (b0 :: su) pos'] [] [] pos) (fun D σ H => tb (wKeep X.K c i ts Wo D) D σ H) := by
  refine ⟨fun pins s σ H D I h => wpAny_Try_except ?_⟩
  have okX := I.ok
  have frames : X.A.frames = some (X.env :: X.outer) := okX.frames.trans (congrArg some hst)
  refine wpAny_mono ((hb (wKeep X.K c i ts Wo D) (X.pn ++ pins) (fun e z1 => wpAny (model X.prog X.w) X.A (noteFrame e X.env) (fun _ z2 => wpAny (model X.prog X.w) X.A (setFlight e none) (fun _ z3 =>
      wpAny (model X.prog X.w) X.A (handleBy e X.env [.ExceptHandler (some (.Name x np)) (some n) (b0 :: su) pos']) (SP X pins D) X.xe z3) X.xe z2) X.xe z1) (fun u z xx => ?caught) PassesOwn.looking).run [] s σ H D (I.toTry _) h)
    (fun fl z hz => ?through) (fun _ _ q => q)
  case through =>
    cases fl with
    | next => obtain ⟨τ, G, J, q⟩ := hz; exact wpAny_execs_nil ⟨τ, G, J.ofTry okX, q⟩
    | brk => obtain ⟨τ, G, J, q⟩ := hz; exact ⟨τ, G, J.ofTry okX, q⟩
    | cont => obtain ⟨τ, G, J, q⟩ := hz; exact ⟨τ, G, J.ofTry okX, q⟩
    | ret u => obtain ⟨v, τ, G, J, r, q⟩ := hz; exact ⟨v, τ, G, J.ofTry okX, r, q⟩
  case caught =>
    obtain ⟨a, B, zI, ps1, τ, G, cls, d, rfl, J0, nb, up, sky, na, hos, hag, yes, hy1, hyes, hno⟩ := xx
    have J : Inv X pins τ G zI := J0.ofTry okX
    have sky2 : Sky B (X.env :: X.outer) a (Zc cls d) X.env.locals z.heap := hst ▸ sky
    refine Sky.land (Q := fun _ z3 => wpAny (model X.prog X.w) X.A (handleBy (.ref a) X.env [.ExceptHandler (some (.Name x np)) (some n) (b0 :: su) pos']) (SP X pins D) X.xe z3) Zc.steady frames hfr sky2 fun h3 fl3 up3 => ?_
    have J3 : Inv X pins τ G { z with heap := h3 } := J.landed nb fl3.1 (up.trans up3) hos hag
    obtain ⟨oe3, vs3, he3, hz3, hd3⟩ := fl3.there
    have nfr : a ∉ frs (X.env :: X.outer) := fun hm => by
      obtain ⟨_, o', e', hnf⟩ := fl3.2.2.1.mem hm
      rw [he3] at e'
      cases e'
      exact hnf _ hd3
    have nfrX : a ∉ frs X.stack := hst ▸ nfr
    have nL : a ≠ X.env.locals := fun q => nfr (List.mem_filterMap.mpr ⟨X.env, List.mem_cons_self, hfr.trans (congrArg some q.symm)⟩)
    have nF : a ∉ X.fs := fun hm => by
      obtain ⟨en, hen, q⟩ := List.mem_filterMap.mp hm
      exact nfr (List.mem_filterMap.mpr ⟨en, List.mem_cons_of_mem _ hen, q⟩)
    have absI : zI.heap.get? a = none := by
      cases q : zI.heap.get? a with
      | none => rfl
      | some o =>
        have q2 := nb a o q nfrX
        rw [fl3.2.1] at q2
        cases q2
    have abs0 : X.s_0.heap.get? a = none := by
      cases q : X.s_0.heap.get? a with
      | none => rfl
      | some o =>
        obtain ⟨o', q2⟩ := J.base.there a o q (by rw [hex]; exact fun y => nomatch y)
        rw [absI] at q2
        cases q2
    have nP : ∀ p ∈ X.pn ++ pins, p.1 ≠ a := fun p hp q => by
      have q2 := (J.pin p hp).1
      rw [q, absI] at q2
      cases q2
    have S3 := J3.suite he3 hd3 na nL nF
    refine wpAny_handleBy_cons (codeAny_handlers_test ?_) (by intro q; cases q)
    have LT : PySem.W.Looks (model X.prog X.w) h3 (typeOf (.ref a)) cls := fun A Q E s k q => wpAny_typeOf_ref (k _ _ he3) (by rw [hz3.1]; exact q)
    have LM := PySem.W.exm_one (M := model X.prog X.w) J3.kIn LT hy1
    have named : ∀ {Q : Value → Shared → Prop} {E : Value → Shared → Prop}, Q c { z with heap := h3 } → wpAny (model X.prog X.w) (X.A.mark (some (.ref a))) (eval (.Name x np) X.env) Q E { z with heap := h3 } := by
      intro Q E q
      obtain ⟨g1, g2, g3⟩ := hc
      rcases g3 with g3 | ⟨g3, g4, g5⟩
      · exact ld_glob (X := X.suite a ((a, oe3) :: (X.pn ++ pins))) S3 g1 g3 q g2
      · exact ld_blt (X := X.suite a ((a, oe3) :: (X.pn ++ pins))) S3 g1 g3 g4 q g5 g2
    refine named (LM.here ?_)
    cases yes with
    | false =>
      show wpAny _ X.A (handleBy (.ref a) X.env []) _ _ _
      refine wpAny_handleBy_nil ?_
      obtain ⟨_, _, _, oe, vs, T, oT, tz, he, _, hd, h1, _⟩ := id fl3
      have fin : wpAny (model X.prog X.w) X.A (setFlight (.ref a) X.env.frame) (fun _ z4 => wpAny (model X.prog X.w) X.A (throw (.ref a) : Sem Flow) (SP X pins D) X.xe z4) X.xe { z with heap := h3 } := by
        rw [hfr]
        refine HandSPX.setFlight_upZ fl3 fun h4 hh4 up4 => wpAny_throw (tk _ _ ⟨a, B, zI, pins, τ, G, cls, d, rfl, J, nb, (up.trans up3).trans up4, .inr (.inr ?_), na, hos, hag, hno rfl⟩)
        rw [hst]
        exact hh4
      unfold PySem.passOn
      refine wpAny_bind (wpAny_field he hd h1 ?_)
      rw [if_neg (show ¬ ((Value.ref T == Value.none) = true) from by simp)]
      first
        | exact wpAny_bind (wpAny_pure (wpAny_bind fin))
        | exact wpAny_bind fin
    | true =>
      refine codeAny_handlers_suite_as (HandSPX.lands_againZ fl3 fun h4 fl4 up4 => ?_)
      have J4 : Inv X pins τ G { z with heap := h4 } := J.landed nb fl4.1 ((up.trans up3).trans up4) hos hag
      obtain ⟨oe4, vs4, he4, hz4, hd4⟩ := fl4.there
      have nC : ∀ y c, X.env.cells.lookup y = some c → c ≠ a := fun y c q q2 => by
        obtain ⟨v, o, ho, hd⟩ := J4.cell y c q
        have ho' : h4.get? c = some o := ho
        rw [q2, he4] at ho'
        cases ho'
        rw [hd4] at hd
        cases hd
      have T4 := WR.Inv.trackNow J4 (o := ExA cls d a) abs0 na nL nC nP (ExA.ok he4 hz4 hd4)
      refine store_ok (X := X.suite a (X.pn ++ pins)) (v := .ref a) (WR.Inv.toSuite T4 a) nd hi (.inl hloc) rfl (fun z5 S5 => ?_) (.inr hloc)
      refine wpAny_mono ((hsu a (X.pn ++ pins)).run [] z5 _ _ _ S5 (hyes rfl a na)) (fun f z6 hsp => ?_) (fun _ _ q => False.elim q)
      have close : ∀ {τ6 : L2.St} {G6 : Hp} {Q : Shared → Prop}, Inv (X.suite a (X.pn ++ pins)) [] τ6 G6 z6 → (∀ z7, Inv X pins (τ6.set i none) G6 z7 → Q z7) →
          wpAny (model X.prog X.w) X.A (do bindName X.env n .none; unbindBehindTheSuite X.env n pos') (fun _ z7 => Q z7) X.xe z6 := fun S6 hq => gone_ok (WR.Inv.ofSuite S6 okX) nd hi hloc hq
      cases f with
      | next => obtain ⟨τ6, G6, S6, q6⟩ := hsp; exact close S6 fun z7 J7 => ⟨_, _, J7, q6⟩
      | brk => obtain ⟨τ6, G6, S6, q6⟩ := hsp; exact close S6 fun z7 J7 => ⟨_, _, J7, q6⟩
      | cont => obtain ⟨τ6, G6, S6, q6⟩ := hsp; exact close S6 fun z7 J7 => ⟨_, _, J7, q6⟩
      | ret u => obtain ⟨v6, τ6, G6, S6, r6, q6⟩ := hsp; exact close S6 fun z7 J7 => ⟨_, _, _, J7, r6, q6⟩
end
/-! ### isinstance and the field of such an object -/
structure IsC (K : PySem.W.Frag) (D : Addr) : Prop where
  xf : XfC K D
  cl : (PySem.W.clsIn K D).isSome = true
  ha : PySem.W.findIn K (.ref D) "__class__" = some (some (.builtin "object.__class__"))
  hn : PySem.W.specialIn K (.builtin "object.__class__") "__get__" = some (some (.builtin "getset_descriptor.__get__"))
  ht : PySem.W.takesIn K (.builtin "object.__class__") = some true
  hm : PySem.W.mroIn K D (.type "object") = some true
def rIsX (K : PySem.W.Frag) : List V → Hp → VK → Prop := fun xs H Q => ∃ (a D : Addr) (d : Addr) (fs : List (Str × V)) (c : V) (cv : Value) (b : Bool), xs = [.ref a, c] ∧ H a = some (ExA (.ref D) (some d) a) ∧ H d = some (.xd fs) ∧ (∀ u, RelV c u → u = cv) ∧ IsC K D ∧
  PySem.W.kitOne K (.ref D) cv = some b ∧ Q (.bl b) H
section
variable {X : Cx}
theorem inst_x {pins : List (Addr × Obj)} {σ : L2.St} {H : Hp} {s : Shared} {a D d : Addr} {fs : List (Str × V)} (I : Inv X pins σ H s) (e1 : H a = some (ExA (.ref D) (some d) a)) (e2 : H d = some (.xd fs)) :
    ∃ (oe od : Obj) (mA : Str → Option Value), PySem.W.InstAt s.heap a oe D (some od) ∧ (∀ name, PySem.W.lookIn name od = some (mA name)) ∧ ∀ f, RelO (fs.lookup f) (mA f) := by
  obtain ⟨oe, vs, ho, hz, hd⟩ := ExA.at_ I.hok e1
  have hx : ObjOk X.prog X.w H s.heap d (.xd fs) := I.hok d _ e2
  obtain ⟨mA, hns, hr⟩ := hx
  obtain ⟨od, hod, hl⟩ := lookIn_ns hns
  refine ⟨oe, od, mA, ⟨ho, hz.1, by unfold PySem.W.notCls; rw [hd] <;> rfl, by rw [hz.2]; exact hod⟩, hl, hr⟩
theorem call_isX : CallR X (.builtin "isinstance") (rIsX X.K) := by
  intro pins s σ H xs us Q I r h
  obtain ⟨a, D, d, fs, c, cv, b, rfl, e1, e2, hcv, C, e, q⟩ := h
  cases r with
  | cons rx rr =>
    cases rr with
    | cons rt rr =>
      cases rr
      cases rx
      have ec := hcv _ rt
      subst ec
      obtain ⟨oe, od, mA, J, _, _⟩ := inst_x I e1 e2
      exact PySem.W.kia_one (PySem.W.kitx_exc C.cl C.xf.ga C.xf.gg C.xf.exC C.ha C.hn C.ht C.hm) I.kIn J e (fun z => nomatch z) fun tk => ⟨.bl b, H, I.kept (t' := tk) fun _ _ z => z, rfl, q⟩
/-- e.n of it -/
def tXv (K : PySem.W.Frag) (n : Str) (te : TE) : TE := fun σ H Q => te σ H fun x H1 => ∃ (a D d : Addr) (fs : List (Str × V)) (v : V), x = .ref a ∧ H1 a = some (ExA (.ref D) (some d) a) ∧ H1 d = some (.xd fs) ∧ IsC K D ∧ PySem.W.findIn K (.ref D) n = some none ∧ fs.lookup n = some v ∧ Q v H1
theorem pe_xv {e : Expr} {te : TE} {pos : Pos} {n : Str} (he : PE X e te) (hb : attributeBase e n X.env (eval e X.env) = eval e X.env := by rfl) : PE X (.Attribute e n pos) (tXv X.K n te) := by
  refine ⟨fun pins s σ H Q I h => attr_of hb (thn (he.run pins s σ H _ I h) fun u s1 hh => ?_)⟩
  obtain ⟨x, H1, I1, rx, a, D, d, fs, v, rfl, e1, e2, C, hno, l, q⟩ := hh
  obtain rfl : u = Value.ref a := rx
  obtain ⟨oe, od, mA, J, hl, hr⟩ := inst_x I1 e1 e2
  obtain ⟨u, hu, ru⟩ := RelO.some_of (v := v) (o := mA n) (by rw [← l]; exact hr n)
  exact HandSPX.exc_get I1.kIn J C.xf.ga C.xf.gg C.xf.exC (PySem.W.findObj_own C.xf.hdC hno rfl (by rw [hl, hu])) (handed_of ru) ⟨v, H1, I1.tok _, ru, q⟩
end
end WR
namespace WR
open PySem PySem.Spec PyProof.Rows L2 LamX
/-! ### a lambda handed down: what is known of it wherever the maker's frame still stands -/
/-- what is wished of the lambda may be weakened -/
def Mn (tl : XK → Hp → VK → Prop) : Prop := ∀ (E E' : XK) (H : Hp) (Q Q' : VK), tl E H Q → (∀ c d G, E c d G → E' c d G) → (∀ v G, Q v G → Q' v G) → tl E' H Q'
def Clo (tl : XK → Hp → VK → Prop) : XK → Hp → VK → Prop := fun E H Q => ∃ (E0 : XK) (Q0 : VK), tl E0 H Q0 ∧ (∀ c d G, E0 c d G → E c d G) ∧ ∀ v G, Q0 v G → Q v G
theorem Clo.of {tl : XK → Hp → VK → Prop} {E : XK} {H : Hp} {Q : VK} (h : tl E H Q) : Clo tl E H Q := ⟨E, Q, h, fun _ _ _ x => x, fun _ _ x => x⟩
theorem Clo.mn (tl : XK → Hp → VK → Prop) : Mn (Clo tl) := fun E E' H Q Q' h hE hQ => by
  obtain ⟨E0, Q0, h1, h2, h3⟩ := h
  exact ⟨E0, Q0, h1, fun c d G x => hE c d G (h2 c d G x), fun v G x => hQ v G (h3 v G x)⟩
theorem cr_mono {P : Program} {w : World} {outer : List Env} {H : Hp} {s s' : Shared} {Q Q' : VK} {E E' : XK} {r : Result} (h : CR (CXr P w) outer P w H s Q E r s') (hE : ∀ c d G, E c d G → E' c d G) (hQ : ∀ v G, Q v G → Q' v G) : CR (CXr P w) outer P w H s Q' E' r s' := by
  cases r with
  | error e =>
    obtain ⟨a, B, H', cls, d, z, fl, hok, ub, na, os, ag, q⟩ := h
    exact ⟨a, B, H', cls, d, z, fl, hok, ub, na, os, ag, hE _ _ _ q⟩
  | ok fl => cases fl with
    | ret u =>
      obtain ⟨v, H', os, bare, un, hok, rv, q⟩ := h
      exact ⟨v, H', os, bare, un, hok, rv, hQ _ _ q⟩
    | next => exact h
    | brk => exact h
    | cont => exact h
structure LamAt (P : Program) (w : World) (K : PySem.W.Frag) (mg : Str → Option Value) (base : Heap) (j : Nat) (g : Addr) (q : Str) (c : Addr) (fr : List Addr) (H0 : Hp) (h0 : Heap) (tl : XK → Hp → VK → Prop) : Prop where
  mn : Mn tl
  fn : ∀ (H : Hp) (s : Shared), Un fr [] H0 H h0 s.heap → PySem.W.FnAt g s.heap
  run : ∀ (A : Around) (outer : List Env) (s : Shared) (H : Hp) (Q : VK) (E : XK), NoG A → Room j A → Env0 P w K mg base A outer s H → Un fr [] H0 H h0 s.heap → H c = some (CodeO c q) → tl E H Q →
    codeAny (model P w) A (.call (.ref g) ⟨[], []⟩) (CR (CXr P w) outer P w H s Q E) s
theorem LamAt.mono {P : Program} {w : World} {K : PySem.W.Frag} {mg : Str → Option Value} {base : Heap} {i j : Nat} {g c : Addr} {q : Str} {fr : List Addr} {H0 : Hp} {h0 : Heap} {tl : XK → Hp → VK → Prop} (a : LamAt P w K mg base i g q c fr H0 h0 tl) (h : i ≤ j) :
    LamAt P w K mg base j g q c fr H0 h0 tl := ⟨a.mn, a.fn, fun A outer s H Q E hG hr => a.run A outer s H Q E hG (hr.mono h)⟩
theorem un_step {fr fs : List Addr} {H0 H1 H2 : Hp} {h0 h1 h2 : Heap} (u : Un fr [] H0 H1 h0 h1) (v : Un fs [] H1 H2 h1 h2) (hf : ∀ b ∈ fs, b ∈ fr ∨ h0.get? b = none) : Un fr [] H0 H2 h0 h2 where
  keep := fun b o e n nb nx => v.keep b o (u.keep b o e n nb nx) (u.free b o e n nx) (fun hb => by
    rcases hf b hb with z | z
    · exact nb z
    · rw [e] at z; cases z) nx
  slot := fun b o e n hb nx => by
    obtain ⟨sl, e1⟩ := u.slot b o e n hb nx
    obtain ⟨sl2, e2⟩ := v.any e1 (u.free b o e n nx) nx
    exact ⟨sl2, e2⟩
  free := fun b o e n nx => by
    obtain ⟨o1, e1⟩ := u.there b o e nx
    exact v.free b o1 e1 (u.free b o e n nx) nx
  there := fun b o e nx => by
    obtain ⟨o1, e1⟩ := u.there b o e nx
    exact v.there b o1 e1 nx
  tups := fun b xs e => v.tups b xs (u.tups b xs e)
  frzs := fun b o x e => v.frzs b o x (u.frzs b o x e)
  tbls := fun b ps e => by
    obtain ⟨m1, e1⟩ := u.tbls b ps e
    obtain ⟨m2, e2⟩ := v.tbls b _ e1
    exact ⟨m1 ++ m2, by rw [e2, Array.append_assoc]⟩
theorem snap_of {X : Cx} {pins : List (Addr × Obj)} {σ : L2.St} {H H0 : Hp} {s : Shared} {h0 : Heap} {fr : List Addr} (hex : X.ex = []) (hst : X.stack = X.env :: X.outer) (hfr : X.env.frame = some X.s_0.heap.objs.size) (u0 : Un fr [] H0 X.H_0 h0 X.s_0.heap)
    (ho : ∀ b ∈ frs X.outer, b ∈ fr ∨ h0.get? b = none) (I : Inv X pins σ H s) : Un fr [] H0 H h0 s.heap ∧ ∀ b ∈ frs X.stack, b ∈ fr ∨ h0.get? b = none := by
  have b := I.base
  rw [hex] at b
  refine ⟨un_step u0 b ho, fun b hb => ?_⟩
  rw [hst] at hb
  have e : frs (X.env :: X.outer) = X.s_0.heap.objs.size :: frs X.outer := by
    unfold frs
    rw [List.filterMap_cons, hfr]
  rw [e] at hb
  rcases List.mem_cons.mp hb with z | z
  · refine .inr ?_
    cases q : h0.get? b with
    | none => rfl
    | some o =>
      obtain ⟨o1, e1⟩ := u0.there b o q (by simp)
      rw [z] at e1
      exact absurd (Heap.lt_size e1) (Nat.lt_irrefl _)
  · exact ho b z
section
variable {X : Cx} {pins : List (Addr × Obj)} {σ : L2.St} {H : Hp} {s : Shared}
/-- the maker tells it -/
theorem lam_at {k : Nat} {f c : Addr} {pm ctv : Value} {params : Arguments} {body : Expr} {scope : Scope} {t : XK → TE} (I : Inv X pins σ H s) (L : LamS X.env.scope scope)
    (hf : s.heap.get? f = some (PySem.W.kla_obj "<lambda>" (X.env.qual ++ "<lambda>") params body scope (cloFrom X.env.cells scope.names []) pm c ctv)) (hfn : H f = none) (hff : f ∉ frs X.stack)
    (hbind : ∀ (q : Str) (cl : List (Str × Addr)) (pm cv ctv : Value), bindArgs (PySem.W.kla_fn "<lambda>" q params body scope cl pm cv ctv) ⟨[], []⟩ = pure [])
    (hbody : ∀ (A : Around) (outer : List Env) (s1 : Shared) (H1 : Hp) (E : XK), NoG (A.deeper (lamEnv X scope s1.heap.objs.size f c)) → Room k (A.deeper (lamEnv X scope s1.heap.objs.size f c)) → PE (lamCx X A outer s1 H1 E scope f c) body (t E)) :
    LamAt X.prog X.w X.K X.mg X.base (k + 1) f (X.env.qual ++ "<lambda>") c (frs X.stack) H s.heap (Clo fun E H1 Q => t E σ H1 Q) where
  mn := Clo.mn _
  fn := fun H1 s1 un => ⟨_, _, _, _, un.keep f _ hf hfn hff (by simp)⟩
  run := by
    intro A outer s1 H1 Q' E' hG hr e0 un hc ht'
    obtain ⟨E, Q, ht, wE, wQ⟩ := ht'
    refine codeAny_mono (R := CR (CXr X.prog X.w) outer X.prog X.w H1 s1 Q E) ?_ fun r z hz => cr_mono hz wE wQ
    have o1 := un.keep f _ hf hfn hff (by simp)
    obtain ⟨⟨oc, vs, tk, g1, g2, g3⟩, _, _⟩ := e0.hok c _ hc
    have lim : s1.heap.NoLimit := e0.mod.nolimit.keeps fun b o e => (e0.bs b o e).1
    refine PySem.W.kla_callFunE hr.depth o1 rfl L.co L.gen rfl ⟨c, oc, vs, tk, rfl, g1, g2, g3⟩ ?_
    rw [hbind]
    refine wpAny_pure (wpAny_newFunctionEnv (fun y hy => (L.own y hy).2) (fun y hy => absurd hy (by simp)) (fun h1 hns hsb => ?_) L.kind)
    refine ⟨lim.fresh _ hsb, ?_⟩
    have kp : ∀ b o, s1.heap.get? b = some o → h1.get? b = some o := fun b o e => hsb.extBut b o (Nat.ne_of_lt (Heap.lt_size e)) (Heap.get?_push_of_some _ e)
    have J := lam_start2 (E := E) (f := f) (c' := c) (tk := s1.toks + ([] : List (Str × Value)).length) I L e0 hr.hd un hns kp
    refine PySem.W.kla_codeExpr (wpAny_mono ((hbody A outer s1 H1 E hG (hr.deeper _)).run [] _ _ H1 Q J ht) (fun v z hq => ?_) fun _ _ hq => hq)
    obtain ⟨v', H', J', rv, q⟩ := hq
    exact ⟨v', H', J'.os, J'.bare, J'.base, J'.hok, rv, q⟩
end
section
variable {X : Cx} {j : Nat} {g c : Addr} {q a : Str} {fr : List Addr} {H0 : Hp} {h0 : Heap} {tl : XK → Hp → VK → Prop} {i : Nat} {W : WX} {p1 p2 : Pos}
/-- a(), a the lambda that was handed in -/
theorem pe_actL (la : LamAt X.prog X.w X.K X.mg X.base j g q c fr H0 h0 tl) (hG : NoG X.A) (hr : Room j X.A) (hex : X.ex = []) (hst : X.stack = X.env :: X.outer) (hfr : X.env.frame = some X.s_0.heap.objs.size) (u0 : Un fr [] H0 X.H_0 h0 X.s_0.heap)
    (ho : ∀ b ∈ frs X.outer, b ∈ fr ∨ h0.get? b = none) (tk : Takes X W) (hN : X.N[i]? = some a) (hv : Vis X.env.scope a) (hd : (a == ("__debug__" : Str)) = false := by decide) (hcd : (a == ("__classdict__" : Str)) = false := by decide) :
    PE X (.Call (.Name a p1) [] [] p2) (fun σ H Q => σ[i]? = some (some (.ref g)) ∧ H c = some (CodeO c q) ∧ tl (fun cls d H' => W cls d σ H') H Q) := by
  refine ⟨fun pins s σ H Q I h => ?_⟩
  obtain ⟨hs, hc, ht⟩ := h
  refine wpAny_Call_Name_kw (thn ((pe_var (pos := p1) (i := i) hN hv hd hcd).run pins s σ H (fun v H1 => v = .ref g ∧ H1 = H) I ⟨.ref g, hs, rfl, rfl⟩) fun u s1 hq => ?_)
  obtain ⟨v, H1, I1, r1, ev, eH⟩ := hq
  subst ev eH
  obtain rfl : u = Value.ref g := r1
  obtain ⟨un, hb⟩ := snap_of hex hst hfr u0 ho I1
  refine PySem.W.callWith_F0 (la.fn _ _ un) (wpAny_call (codeAny_mono (la.run X.A X.stack s1 H1 Q (fun cls d H' => W cls d σ H') hG hr I1.env0 un hc ht) fun r s2 hq => ?_))
  cases r with
  | error e => exact passAt tk σ pins H1 s1 e s2 I1 hq
  | ok fl => cases fl with
    | ret u => exact I1.after hq
    | next => exact hq.elim
    | brk => exact hq.elim
    | cont => exact hq.elim
end
/-! ### a def that takes a lambda behind n other arguments -/
abbrev SpL := (XK → Hp → VK → Prop) → List V → List V → Hp → VK → Prop
structure Cl (P : Program) (w : World) (K : PySem.W.Frag) (mg : Str → Option Value) (base : Heap) (k : Nat) (x : Str) (ps : List Str) (sp : SpL) : Prop where
  ex : ∃ (f : Addr), mg x = some (.ref f) ∧ PySem.W.keepIn K (.ref f) = true ∧
    ∀ (A : Around) (outer : List Env) (s : Shared) (H : Hp) (us1 us2 : List Value) (vs1 vs2 : List V) (Q : VK) (j : Nat) (g c : Addr) (q : Str) (fr : List Addr) (H0 : Hp) (h0 : Heap) (tl : XK → Hp → VK → Prop), NoG A → Room (k + j) A → Env0 P w K mg base A outer s H →
      Vals vs1 us1 → Vals vs2 us2 → LamAt P w K mg base j g q c fr H0 h0 tl → Un fr [] H0 H h0 s.heap → (∀ b ∈ frs outer, b ∈ fr ∨ h0.get? b = none) → H c = some (CodeO c q) → sp tl vs1 vs2 H Q →
      codeAny (model P w) A (.call (.ref f) ⟨us1 ++ .ref g :: us2, []⟩) (CR CX0 outer P w H s Q E0) s
section
variable {P : Program} {w : World} {K : PySem.W.Frag} {mg : Str → Option Value} {base : Heap}
theorem Cl.mono {i k : Nat} {x : Str} {ps : List Str} {sp : SpL} (c : Cl P w K mg base i x ps sp) (h : i ≤ k) : Cl P w K mg base k x ps sp := by
  obtain ⟨f, h1, h2, h3⟩ := c.ex
  exact ⟨f, h1, h2, fun A outer s H us1 us2 vs1 vs2 Q j g c q fr H0 h0 tl hG hr => h3 A outer s H us1 us2 vs1 vs2 Q j g c q fr H0 h0 tl hG (hr.mono (Nat.add_le_add_right h j))⟩
/-- by the body, walked where the lambda is known -/
theorem cl_of {x : Str} {st : Stmt} {f : Addr} {fd : FuncData} {N ps : List Str} {k : Nat} {sp : SpL} (F : FD K x st f fd) (hm : mg x = some (.ref f)) (S : FnScope N ps (defScope st)) (len : ∀ tl vs1 vs2 H Q, sp tl vs1 vs2 H Q → vs1.length + (vs2.length + 1) = ps.length)
    (b1 : ∀ (kV dc pm : Value) (an : Option Addr) (cdv ct : Value) (us : List Value), us.length = ps.length → bindArgs (PySem.W.fnOf x x (defArgs st) (defBody st) (defScope st) .none kV dc pm an cdv ct) ⟨us, []⟩ = pure (ps.zip us))
    (hb : ∀ (cdv : Value) (A : Around) (outer : List Env) (s : Shared) (H : Hp) (vs1 vs2 : List V) (Q : VK) (j : Nat) (g c : Addr) (q : Str) (fr : List Addr) (H0 : Hp) (h0 : Heap) (tl : XK → Hp → VK → Prop),
      NoG (A.deeper (envOfC x (defScope st) s.heap.objs.size f cdv)) → Room (k + j) (A.deeper (envOfC x (defScope st) s.heap.objs.size f cdv)) → LamAt P w K mg base j g q c fr H0 h0 tl → Un fr [] H0 H h0 s.heap → (∀ b ∈ frs outer, b ∈ fr ∨ h0.get? b = none) → H c = some (CodeO c q) → sp tl vs1 vs2 H Q →
      ∃ t, PSs (cxOf CX0 P w K mg base N x (defScope st) f cdv A outer s H E0).nox (defBody st) t ∧ t { nx := fun _ H' => Q .non H', rt := Q } (start N (vs1 ++ .ref g :: vs2)) H) : Cl P w K mg base (k + 1) x ps sp := by
  have kp := F.kp
  obtain ⟨oc, od, dV, kV, dc, pm, an, cdv, ct, sl, rfl, lk, hcd, hD, _⟩ := F.ex
  rcases hD with ⟨_, rfl⟩ | ⟨e, _⟩
  · refine ⟨f, hm, kp, fun A outer s H us1 us2 vs1 vs2 Q j g c q fr H0 h0 tl hG hr e0 r1 r2 la un ho hc hsp => ?_⟩
    have rv : Vals (vs1 ++ V.ref g :: vs2) (us1 ++ Value.ref g :: us2) := r1.append (.cons rfl r2)
    have hl := len _ _ _ _ _ hsp
    have lv : (vs1 ++ V.ref g :: vs2).length = ps.length := by rw [List.length_append, List.length_cons]; omega
    have lu : (us1 ++ Value.ref g :: us2).length = ps.length := by rw [← rv.length]; exact lv
    have hr2 : Room (k + j + 1) A := hr.mono (by omega)
    refine LamX.run_ofS lk hcd S hr2 e0 (.of_eq (b1 kV dc pm an cdv ct _ lu)) rv lv fun hr3 => ?_
    obtain ⟨t, h1, h2⟩ := hb cdv A outer s H vs1 vs2 Q j g c q fr H0 h0 tl hG hr3 la un ho hc hsp
    exact ⟨t, h1.nox, h2⟩
  · exact absurd rfl e
end
section
variable {X : Cx} {k j m : Nat} {x a : Str} {ps : List Str} {sp : SpL} {g c : Addr} {q : Str} {fr : List Addr} {H0 : Hp} {h0 : Heap} {tl : XK → Hp → VK → Prop} {i : Nat} {p p1 pos : Pos}
/-- x(a), a the lambda that was handed in -/
theorem pe_passL (cl : Cl X.prog X.w X.K X.mg X.base k x ps sp) (la : LamAt X.prog X.w X.K X.mg X.base j g q c fr H0 h0 tl) (hG : NoG X.A) (hr : Room m X.A) (hm : k + j ≤ m) (hex : X.ex = []) (hst : X.stack = X.env :: X.outer)
    (hfr : X.env.frame = some X.s_0.heap.objs.size) (u0 : Un fr [] H0 X.H_0 h0 X.s_0.heap) (ho : ∀ b ∈ frs X.outer, b ∈ fr ∨ h0.get? b = none) (hg : Gl X x) (hN : X.N[i]? = some a) (hv : Vis X.env.scope a) (hdb : (x == ("__debug__" : Str)) = false := by decide)
    (hd : (a == ("__debug__" : Str)) = false := by decide) (hcd : (a == ("__classdict__" : Str)) = false := by decide) :
    PE X (.Call (.Name x p) [.Name a p1] [] pos) (fun σ H Q => σ[i]? = some (some (.ref g)) ∧ H c = some (CodeO c q) ∧ sp tl [] [] H Q) := by
  obtain ⟨f, hm1, kp, F⟩ := cl.ex
  refine ⟨fun pins s σ H Q I h => ?_⟩
  obtain ⟨hs, hc, ht⟩ := h
  refine wpAny_Call_Name_kw (ld_glob I hg hm1 ?_ hdb)
  have pa : PA X [.Name a p1] _ := pa_cons (pe_var (i := i) hN hv hd hcd) pa_nil
  refine PySem.W.callWith_K (h₀ := X.base) I.ok.mod.kin kp (thn (pa.run pos pins s σ H (fun vs H1 => vs = [.ref g] ∧ H1 = H) I ⟨.ref g, hs, rfl, rfl⟩) fun us s1 hq => ?_) rfl rfl
  obtain ⟨vs, H1, I1, r1, ev, eH⟩ := hq
  subst ev eH
  cases r1 with
  | cons ra rr =>
    cases rr
    cases ra
    obtain ⟨un, hb⟩ := snap_of hex hst hfr u0 ho I1
    refine ⟨I1.kIn, wpAny_call (codeAny_mono (F X.A X.stack s1 H1 [] [] [] [] Q j g c q fr H0 h0 tl hG (hr.mono hm) I1.env0 .nil .nil la un hb hc ht) fun r s2 hq => ?_)⟩
    cases r with
    | error e => exact False.elim hq
    | ok fl => cases fl with
      | ret u => exact I1.after hq
      | next => exact hq.elim
      | brk => exact hq.elim
      | cont => exact hq.elim
end
/-! ### x(.., lambda: body, ..) in the maker -/
section
variable {X : Cx} {pins : List (Addr × Obj)} {σ : L2.St} {H : Hp} {s : Shared}
theorem pin_on {a : Addr} {o : Obj} (I : Inv X pins σ H s) (h1 : s.heap.get? a = some o) (h2 : H a = none) (h3 : a ∉ frs (X.env :: X.outer)) (hfr : X.env.frame = some X.env.locals) (h4 : ∀ v, o.data ≠ .cell v) : Inv X (pins ++ [(a, o)]) σ H s :=
  ⟨I.ok, I.os, I.bare, I.base, I.loc, I.cell, I.free, I.freeC, fun p hp => by
    have hp2 : p ∈ X.pn ++ pins ∨ p = (a, o) := by
      rw [← List.append_assoc] at hp
      rcases List.mem_append.mp hp with z | z
      · exact .inl z
      · exact .inr (List.mem_singleton.mp z)
    rcases hp2 with z | z
    · exact I.pin p z
    · subst z
      exact ⟨h1, h2, fun q => h3 (List.mem_filterMap.mpr ⟨X.env, List.mem_cons_self, hfr.trans (congrArg some q.symm)⟩), fun hm => by
        obtain ⟨en, hen, q⟩ := List.mem_filterMap.mp hm
        exact h3 (List.mem_filterMap.mpr ⟨en, List.mem_cons_of_mem _ hen, q⟩), h4⟩, I.hok, I.len⟩
theorem pin_off {a : Addr} {o : Obj} (I : Inv X (pins ++ [(a, o)]) σ H s) : Inv X pins σ H s ∧ s.heap.get? a = some o ∧ H a = none := by
  have e := I.pin (a, o) (by simp)
  exact ⟨⟨I.ok, I.os, I.bare, I.base, I.loc, I.cell, I.free, I.freeC, fun p hp => I.pin p (by rw [← List.append_assoc]; exact List.mem_append_left _ hp), I.hok, I.len⟩, e.1, e.2.1⟩
end
/-- the reading: the tables stand, the arguments ta1 ahead, the lambda, ta2 behind -/
def tLamL (T : List (Addr × Str)) (q : Str) (sp : SpL) (ta1 ta2 : TA) (t : XK → TE) : TE := fun σ H Q => ta1 σ H fun vs1 H1 => Tabs T H1 ∧ ∀ H2, ExtN H1 H2 → Tabs T H2 → ∀ c, H2 c = some (CodeO c q) → ta2 σ H2 fun vs2 H3 => H3 c = some (CodeO c q) ∧ sp (Clo fun E H' Q' => t E σ H' Q') vs1 vs2 H3 Q
section
variable {X : Cx} {T : List (Addr × Str)} {x : Str} {c P : Addr} {k j m : Nat} {ps : List Str} {sp : SpL} {params : Arguments} {body : Expr} {scope : Scope} {t : XK → TE} {ta1 ta2 : TA} {p lpos pos : Pos} {e1 : Expr} {es : List Expr}
/-- what both rules need of the maker -/
structure Maker (X : Cx) (T : List (Addr × Str)) (c P : Addr) : Prop where
  tb : TabB X.base X.mg c P
  code : X.env.code = .ref c
  mem : (P, X.env.qual ++ "<lambda>") ∈ T
  uniq : ∀ p ∈ T, p.1 = P → p.2 = X.env.qual ++ "<lambda>"
  stk : X.stack = X.env :: X.outer
  fr : X.env.frame = some X.env.locals
theorem lam_go {pins : List (Addr × Obj)} {σ : L2.St} {H : Hp} {s : Shared} {Q : VK} {us1 : List Value} {vs1 : List V} (M : Maker X T c P) (cl : Cl X.prog X.w X.K X.mg X.base k x ps sp) (hG : NoG X.A) (hr : Room m X.A) (hm : k + (j + 1) ≤ m) (L : LamS X.env.scope scope) (hdef : defaultsOf params X.env = ([], []))
    (hbind : ∀ (q : Str) (cl : List (Str × Addr)) (pm cv ctv : Value), bindArgs (PySem.W.kla_fn "<lambda>" q params body scope cl pm cv ctv) ⟨[], []⟩ = pure [])
    (hbody : ∀ (A : Around) (outer : List Env) (s1 : Shared) (H1 : Hp) (E : XK) (f c' : Addr), NoG (A.deeper (lamEnv X scope s1.heap.objs.size f c')) → Room j (A.deeper (lamEnv X scope s1.heap.objs.size f c')) → PE (lamCx X A outer s1 H1 E scope f c') body (t E)) (ha : PA X es ta2) {f : Addr}
    (I : Inv X pins σ H s) (r1 : Vals vs1 us1) (hT : Tabs T H) (h : ∀ H2, ExtN H H2 → Tabs T H2 → ∀ c', H2 c' = some (CodeO c' (X.env.qual ++ "<lambda>")) → ta2 σ H2 fun vs2 H3 => H3 c' = some (CodeO c' (X.env.qual ++ "<lambda>")) ∧ sp (Clo fun E H' Q' => t E σ H' Q') vs1 vs2 H3 Q)
    (hf : X.mg x = some (.ref f)) (kp : PySem.W.keepIn X.K (.ref f) = true)
    (F : ∀ (A : Around) (outer : List Env) (s : Shared) (H : Hp) (us1 us2 : List Value) (vs1 vs2 : List V) (Q : VK) (j : Nat) (g c : Addr) (q : Str) (fr : List Addr) (H0 : Hp) (h0 : Heap) (tl : XK → Hp → VK → Prop), NoG A → Room (k + j) A → Env0 X.prog X.w X.K X.mg X.base A outer s H →
      Vals vs1 us1 → Vals vs2 us2 → LamAt X.prog X.w X.K X.mg X.base j g q c fr H0 h0 tl → Un fr [] H0 H h0 s.heap → (∀ b ∈ frs outer, b ∈ fr ∨ h0.get? b = none) → H c = some (CodeO c q) → sp tl vs1 vs2 H Q →
      codeAny (model X.prog X.w) A (.call (.ref f) ⟨us1 ++ .ref g :: us2, []⟩) (CR CX0 outer X.prog X.w H s Q E0) s) :
    wpAny (model X.prog X.w) X.A (spliced ((false, eval (.Lambda params body scope lpos) X.env) :: backTo pos (starEach es X.env))) (fun us s1 => X.K.In s1.heap ∧ wpAny (model X.prog X.w) X.A (call (.ref f) (us1 ++ us)) (EP X pins σ Q) X.xe s1) X.xe s := by
  refine Calls.spliced_cons (lam_make2 I M.tb M.code M.mem M.uniq hT hdef (L.has I.ok) fun g c' pm ctv H2 s2 I2 eN T2 hg hgn hgf hco => ?_)
  have Ip := pin_on I2 hg hgn (M.stk ▸ hgf) M.fr (fun v z => nomatch z)
  refine thn (ha.run pos _ s2 σ H2 _ Ip (h H2 eN T2 c' hco)) fun us2 s3 hq => ?_
  obtain ⟨vs2, H3, I3, r2, hc3, hsp⟩ := hq
  obtain ⟨I3, hg3, hgn3⟩ := pin_off I3
  refine ⟨I3.kIn, ?_⟩
  have la := lam_at (k := j) (t := t) I3 L hg3 hgn3 hgf hbind fun A outer s1 H1 E => hbody A outer s1 H1 E g c'
  refine wpAny_call (codeAny_mono (F X.A X.stack s3 H3 us1 us2 vs1 vs2 Q (j + 1) g c' _ _ _ _ _ hG (hr.mono hm) I3.env0 r1 r2 la Un.refl (fun b hb => .inl hb) hc3 hsp) fun r s4 hq => ?_)
  cases r with
  | error e => exact False.elim hq
  | ok fl => cases fl with
    | ret u => exact I3.after hq
    | next => exact hq.elim
    | brk => exact hq.elim
    | cont => exact hq.elim
/-- x(lambda: body, e, ..) -/
theorem pe_lamL (M : Maker X T c P) (cl : Cl X.prog X.w X.K X.mg X.base k x ps sp) (hG : NoG X.A) (hr : Room m X.A) (hm : k + (j + 1) ≤ m) (hg : Gl X x) (L : LamS X.env.scope scope) (hdef : defaultsOf params X.env = ([], []))
    (hbind : ∀ (q : Str) (cl : List (Str × Addr)) (pm cv ctv : Value), bindArgs (PySem.W.kla_fn "<lambda>" q params body scope cl pm cv ctv) ⟨[], []⟩ = pure [])
    (hbody : ∀ (A : Around) (outer : List Env) (s1 : Shared) (H1 : Hp) (E : XK) (f c' : Addr), NoG (A.deeper (lamEnv X scope s1.heap.objs.size f c')) → Room j (A.deeper (lamEnv X scope s1.heap.objs.size f c')) → PE (lamCx X A outer s1 H1 E scope f c') body (t E)) (ha : PA X es ta2)
    (hdb : (x == ("__debug__" : Str)) = false := by decide) (he : starEach (.Lambda params body scope lpos :: es) X.env = (false, eval (.Lambda params body scope lpos) X.env) :: starEach es X.env := by rfl) (hpl : (backTo pos (starEach es X.env)).any (·.1) = false := by rfl) :
    PE X (.Call (.Name x p) (.Lambda params body scope lpos :: es) [] pos) (tLamL T (X.env.qual ++ "<lambda>") sp tNil ta2 t) := by
  obtain ⟨f, hf, kp, F⟩ := cl.ex
  refine ⟨fun pins s σ H Q I h => wpAny_Call_Name_kw (ld_glob I hg hf ?_ hdb)⟩
  obtain ⟨hT, h⟩ := h
  refine PySem.W.callWith_K (h₀ := X.base) I.ok.mod.kin kp ?_ he hpl
  rw [he]
  exact lam_go M cl hG hr hm L hdef hbind hbody ha I .nil hT h hf kp F
/-- x(e1, lambda: body) -/
theorem pe_lamL1 {te1 : TE} (M : Maker X T c P) (cl : Cl X.prog X.w X.K X.mg X.base k x ps sp) (hG : NoG X.A) (hr : Room m X.A) (hm : k + (j + 1) ≤ m) (hg : Gl X x) (L : LamS X.env.scope scope) (hdef : defaultsOf params X.env = ([], []))
    (hbind : ∀ (q : Str) (cl : List (Str × Addr)) (pm cv ctv : Value), bindArgs (PySem.W.kla_fn "<lambda>" q params body scope cl pm cv ctv) ⟨[], []⟩ = pure [])
    (hbody : ∀ (A : Around) (outer : List Env) (s1 : Shared) (H1 : Hp) (E : XK) (f c' : Addr), NoG (A.deeper (lamEnv X scope s1.heap.objs.size f c')) → Room j (A.deeper (lamEnv X scope s1.heap.objs.size f c')) → PE (lamCx X A outer s1 H1 E scope f c') body (t E)) (h1 : PE X e1 te1)
    (hdb : (x == ("__debug__" : Str)) = false := by decide) (he : starEach [e1, .Lambda params body scope lpos] X.env = (false, eval e1 X.env) :: starEach [.Lambda params body scope lpos] X.env := by rfl) (hpl : (backTo pos (starEach [.Lambda params body scope lpos] X.env)).any (·.1) = false := by rfl) :
    PE X (.Call (.Name x p) [e1, .Lambda params body scope lpos] [] pos) (tLamL T (X.env.qual ++ "<lambda>") sp (tCons te1 tNil) tNil t) := by
  obtain ⟨f, hf, kp, F⟩ := cl.ex
  refine ⟨fun pins s σ H Q I h => wpAny_Call_Name_kw (ld_glob I hg hf ?_ hdb)⟩
  refine PySem.W.callWith_K (h₀ := X.base) I.ok.mod.kin kp ?_ he hpl
  rw [he]
  show wpAny _ _ (spliced ((false, eval e1 X.env) :: backTo pos (starEach [.Lambda params body scope lpos] X.env))) _ _ s
  refine Calls.spliced_cons (thn (h1.run pins s σ H _ I h) fun u s1 hq => ?_)
  obtain ⟨v, H1, I1, rv, hT, hk⟩ := hq
  exact lam_go (us1 := [u]) M cl hG hr hm L hdef hbind hbody pa_nil I1 (.cons rv .nil) hT hk hf kp F
end
end WR
namespace WR
open PySem PySem.W PySem.Calls PySem.Spec PyProof.Rows L2 LamX
/-! ### the law's end with tables of code objects, no repr under way -/
theorem law_gT {P : Program} {w : World} {K : Frag} {mg mb : Str → Option Value} {k : Nat} {fa a : Addr} {x : Str} {sp : Sp} {h1 : Heap} {s1 : Shared} {vs : List Value} {ns : List Int} {cs : List (Addr × Addr)} (he : s1.heap = h1)
    (KX : K.In h1) (hns : h1.Ns mainGlobals mg) (hb : h1.Ns builtinsNs mb) (hbb : ∀ x : Str, x ≠ "__name__" → mb x = bootBuiltins x) (hlim : h1.NoLimit) (hg : s1.gens = #[])
    (tE : ∀ p ∈ cs, h1.get? p.2 = some { cls := .none, data := .fields #[] }) (tK : ∀ p ∈ cs, K.lookup p.2 = none) (tC : ∀ p ∈ cs, CodeHd h1 p.1 p.2)
    (hbm : ∃ (bm : Addr) (ob : Obj), mg "__builtins__" = some (.ref bm) ∧ bm ≠ builtinsNs ∧ h1.get? bm = some ob ∧ ob.cls = .type "module" ∧ ob.dict = some builtinsNs ∧ ob.data = .plain)
    (ha : h1.get? a = some { cls := .type "list", data := .seq vs.toArray }) (hi : IntsAre vs ns) (hl : ns.length ≤ sizeLine) (hr : Room k callerA) (hnm : mg x = some (.ref fa))
    (F : ∀ base : Heap, K.In base → base.Ns mainGlobals mg → (∀ p ∈ cs, TabB base mg p.1 p.2) → Cg P w K mg base k x ["script"] sp)
    (hsp : ∀ H : Hp, (∀ p ∈ cs, H p.2 = some (.tbl #[])) → SqL K H a (ns.map V.int) → sp [.ref a] H (fun v _ => v = .bl true) E0) :
    codeAny (model P w) callerA (.call (.ref fa) ⟨[.ref a], []⟩) (fun r s' => r = .ok (.ret (.bool true)) ∧ OldK h1 s'.heap ∧ s'.os = s1.os ∧ AllBare s'.gens) s1 := by
  subst he
  have rv := vals_ints hi
  have inT : ∀ p ∈ cs, p.2 ∈ cs.map (·.2) := fun p hp => List.mem_map.mpr ⟨p, hp, rfl⟩
  have ofT : ∀ b ∈ cs.map (·.2), s1.heap.get? b = some { cls := .none, data := .fields #[] } ∧ K.lookup b = none := fun b hb => by
    obtain ⟨p, hp, rfl⟩ := List.mem_map.mp hb
    exact ⟨tE p hp, tK p hp⟩
  have aT : a ∉ cs.map (·.2) := fun z => by
    have q := (ofT a z).1
    rw [ha] at q
    cases congrArg Obj.data (Option.some.inj q)
  -- what is tracked: the tables, and the script if the written part does not hold it
  have key : ∃ H : Hp, (∀ p ∈ cs, H p.2 = some (.tbl #[])) ∧ SqL K H a (ns.map V.int) ∧
      ∀ b, H b = none ∨ (b ∈ cs.map (·.2) ∧ H b = some (.tbl #[])) ∨ (b = a ∧ K.lookup a = none ∧ H b = some (.frz { cls := .type "list", data := .seq vs.toArray } (.lst (ns.map V.int)))) := by
    cases hk : K.lookup a with
    | some o =>
      have e := KX a o hk
      rw [ha] at e
      cases e
      refine ⟨fun b => if b ∈ cs.map (·.2) then some (.tbl #[]) else none, fun p hp => if_pos (inT p hp), .inr ⟨_, vs.toArray, _, hk, rfl, rfl, rfl, by rw [List.size_toArray, hi.length]; exact hl, by simpa using rv⟩, fun b => ?_⟩
      by_cases hb2 : b ∈ cs.map (·.2)
      · exact .inr (.inl ⟨hb2, if_pos hb2⟩)
      · exact .inl (if_neg hb2)
    | none =>
      refine ⟨fun b => if b ∈ cs.map (·.2) then some (.tbl #[]) else if b = a then some (HO.frz { cls := .type "list", data := .seq vs.toArray } (.lst (ns.map V.int))) else none, fun p hp => if_pos (inT p hp), .inl (.inr ⟨_, (if_neg aT).trans (if_pos rfl)⟩), fun b => ?_⟩
      by_cases hb2 : b ∈ cs.map (·.2)
      · exact .inr (.inl ⟨hb2, if_pos hb2⟩)
      · by_cases hb3 : b = a
        · exact .inr (.inr ⟨hb3, rfl, (if_neg hb2).trans (if_pos hb3)⟩)
        · exact .inl ((if_neg hb2).trans (if_neg hb3))
  obtain ⟨H, hT, hS, hO⟩ := key
  have hok : HOk P w H s1.heap := fun b u z => by
    rcases hO b with q | ⟨q1, q2⟩ | ⟨q1, q2, q3⟩
    · rw [q] at z; cases z
    · rw [q2] at z; cases z; exact (ofT b q1).1
    · rw [q3] at z; cases z; subst q1; exact ⟨ha, by rw [List.length_map]; exact hl, vs, _, rv, ha⟩
  -- what is neither a list nor an empty record is not tracked
  have vis : ∀ {b : Addr} {o : Obj}, s1.heap.get? b = some o → o.data ≠ .fields #[] → (∀ xs n, o.data ≠ .seq xs n) → (hidT s1.heap H).get? b = some o := fun {b o} e n1 n2 => by
    refine hidT_get e ?_
    rcases hO b with q | ⟨q1, _⟩ | ⟨q1, _⟩
    · exact q
    · rw [(ofT b q1).1] at e; cases e; exact absurd rfl n1
    · rw [q1, ha] at e; cases e; exact absurd rfl (n2 _ _)
  have nsV : ∀ {b : Addr} {m : Str → Option Value}, s1.heap.Ns b m → (hidT s1.heap H).Ns b m := by
    rintro b m ⟨o, es, ep, e, d, r⟩
    exact ⟨o, es, ep, vis e (by rw [d]; intro z; cases z) (fun xs n z => by rw [d] at z; cases z), d, r⟩
  have kin : K.In (hidT s1.heap H) := fun b o e => by
    refine hidT_get (KX b o e) ?_
    rcases hO b with q | ⟨q1, _⟩ | ⟨q1, q2, _⟩
    · exact q
    · rw [(ofT b q1).2] at e; cases e
    · rw [q1, q2] at e; cases e
  obtain ⟨mc, l1, l2⟩ := hlim
  have nG : ∀ b (o : Obj), s1.heap.get? b = some o → (∀ es ep, o.data ≠ .dict es ep) → b ≠ mainGlobals := fun b o e n z => by
    obtain ⟨o', es, ep, e', d, _⟩ := hns
    rw [z, e'] at e
    cases e
    exact n _ _ d
  have TB : ∀ p ∈ cs, TabB (hidT s1.heap H) mg p.1 p.2 := fun p hp => by
    refine ⟨?_, ?_, fun z => nG p.2 _ (tE p hp) (fun es ep q => by cases q) z.symm⟩
    · obtain ⟨o, us, file, tf, flags, tg, inF, text, tt, e1, r1, r2, r3, rr⟩ := tC p hp
      refine ⟨o, us, file, tf, flags, tg, inF, text, tt, vis e1 (fun q => ?_) (fun xs n q => by rw [r2] at q; cases q), r1, r2, r3, rr⟩
      rw [r2] at q
      cases q
      cases (show (#[] : Array Value)[11]? = some (.ref p.2) from r3)
    · obtain ⟨bm, ob, b1, b2, b3, b4, b5, b6⟩ := hbm
      refine ⟨bm, ob, b1, b2, nG bm ob b3 (fun es ep q => by rw [b6] at q; cases q), fun q => ?_, vis b3 (by rw [b6]; intro q; cases q) (fun xs n q => by rw [b6] at q; cases q), b4, b5, b6⟩
      rw [q, tE p hp] at b3
      cases b3
      cases b6
  have e0 : Env0 P w K mg (hidT s1.heap H) callerA [] s1 H :=
    ⟨rfl, ⟨kin, nsV hns, ⟨mb, nsV hb, hbb⟩, ⟨mc, nsV l1, l2⟩⟩, fun b o e => of_hidT e, Nat.le_of_eq (hidT_size _ _), trivial, (fun b z => by cases z), hok, .of_eq hg⟩
  obtain ⟨f, fd, G, hm, kp, b1, _⟩ := (F _ kin (nsV hns) TB).ex
  have ef := hnm.symm.trans hm
  cases ef
  refine codeAny_mono (G.go callerA [] s1 H ⟨[.ref a], []⟩ [.ref a] [.ref a] _ E0 rfl hr e0 (b1 s1 [.ref a] rfl) (.cons rfl .nil) (hsp H hT hS)) fun r s' q => ?_
  cases r with
  | error e => exact False.elim q
  | ok fl => cases fl with
    | next => exact False.elim q
    | brk => exact False.elim q
    | cont => exact False.elim q
    | ret u =>
      obtain ⟨v, H', os, bare, un, hok', rr, q'⟩ := q
      have q2 : v = .bl true := q'
      subst q2
      obtain rfl : u = Value.bool true := rr
      have stay : ∀ b o, b ∉ cs.map (·.2) → s1.heap.get? b = some o → s'.heap.get? b = some o := fun b o nb e => by
        rcases hO b with z | ⟨z, _⟩ | ⟨_, _, z⟩
        · exact un.keep b o e z (by intro z; cases z) (by simp)
        · exact absurd z nb
        · obtain ⟨e1, _⟩ := hok b _ z
          rw [e] at e1
          cases e1
          exact (hok' b _ (un.frzs b _ _ z)).1
      have grown : ∀ b ∈ cs.map (·.2), ∃ (p : Addr × Addr) (more : Array Value), p ∈ cs ∧ p.2 = b ∧ s'.heap.get? b = some { cls := .none, data := .fields more } := fun b hb => by
        obtain ⟨p, hp, rfl⟩ := List.mem_map.mp hb
        obtain ⟨more, z⟩ := un.tbls p.2 #[] (hT p hp)
        exact ⟨p, _, hp, rfl, hok' p.2 _ z⟩
      refine ⟨rfl, ⟨fun b o e => ?_, fun b o e => ?_⟩, os, bare⟩
      · by_cases hb2 : b ∈ cs.map (·.2)
        · obtain ⟨p, more, hp, rfl, hm2⟩ := grown b hb2
          rw [tE p hp] at e
          cases e
          exact .inr (.inl ⟨((tC p hp).tab (tE p hp)).isCodeTable, rfl, #[], more, rfl, by rw [Array.empty_append]; exact hm2⟩)
        · exact .inl (stay b o hb2 e)
      · by_cases hb2 : b ∈ cs.map (·.2)
        · obtain ⟨p, more, hp, rfl, hm2⟩ := grown b hb2
          exact ⟨_, hm2⟩
        · exact ⟨o, stay b o hb2 e⟩
theorem walk_gT {l : OpenLaw} {n k : Nat} {q : Program} {loose : List Str} {XP : (Str → Option Value) → Heap → Prop} {YP : World → Heap → Prop} {d : DefRec}
    (hn : l.most = some n) (hn2 : n ≤ sizeLine) (hdf : d.params.defaults = []) (hr : Room k callerA)
    (F : ∀ (w : World) (mg : Str → Option Value) (h : Heap), YP w h → h.Ns mainGlobals mg →
      ∃ (K : Frag) (sp : Sp) (cs : List (Addr × Addr)), K.In h ∧ (∀ p ∈ cs, h.get? p.2 = some { cls := .none, data := .fields #[] }) ∧ (∀ p ∈ cs, K.lookup p.2 = none) ∧ (∀ p ∈ cs, CodeHd h p.1 p.2) ∧
        (∀ (H : Hp) (a : Addr) (ns : List Int), ns.length ≤ n → (∀ p ∈ cs, H p.2 = some (.tbl #[])) → SqL K H a (ns.map V.int) → sp [.ref a] H (fun v _ => v = .bl true) E0) ∧
        ∀ base : Heap, K.In base → base.Ns mainGlobals mg → (∀ p ∈ cs, TabB base mg p.1 p.2) → Cg l.prog w K mg base k d.name ["script"] sp) :
    WalkO q loose XP YP l.row.toRowW d [] (fun f vs => PySem.call f vs) := by
  refine Att.attach_callB hn hdf fun w s0 s1 mg mb fa o pm cd dc a vs ns G Y ho hd hcd hmg hobj hints hlen hbits hg => ?_
  obtain ⟨K, sp, cs, KX, c1, c2, c3, hsp, hF⟩ := F w mg _ Y G.T.g
  exact law_gT rfl KX G.T.g G.T.b G.T.builtins G.T.nolimit hg c1 c2 c3 G.T.bmain hobj hints (Nat.le_trans hlen hn2) hr hmg hF fun H hH hS => hsp H a ns hlen hH hS
end WR
namespace WR
open PySem PySem.Spec PyProof.Rows L2 LamX
/-! ### what the head must tell of an own exception class (over ValueError, with the one __init__ at fI) -/
def exoB (K : PySem.W.Frag) (C : Addr) : Bool := match K.lookup C with
  | some ⟨.type "type", _, .cls cd, sl⟩ => (match cd.mro, sl.toList with
    | .ref D :: bm, [_, _, _, _, some (.builtin n), _] => (D == C && n == "ValueError.__new__") && ((!cd.hasDel && cd.hasDict) && PySem.HandSPX.refsVE bm)
    | _, _ => false)
  | _ => false
theorem exoB_ok {K : PySem.W.Frag} {C : Addr} (h : exoB K C = true) : ∃ nm q N bs bm sn sub ab col dd k0 k1 k2 k3 k5, K.lookup C = some (excClassObj nm q C N bs bm true sn sub ab col dd k0 k1 k2 k3 k5 "ValueError.__new__") ∧ PySem.HandSPX.refsVE bm = true := by
  unfold exoB at h
  split at h
  · rename_i dd cd sl hl
    split at h
    · rename_i D bm k0 k1 k2 k3 n k5 hm hs
      obtain ⟨h1, h2⟩ := He.ba h
      obtain ⟨h3, h4⟩ := He.ba h1
      obtain ⟨h5, h6⟩ := He.ba h2
      obtain ⟨h7, h8⟩ := He.ba h5
      obtain rfl : D = C := beq_iff_eq.mp h3
      obtain rfl : n = "ValueError.__new__" := beq_iff_eq.mp h4
      obtain ⟨nm, bs, mro, ns, qn, hd, sn, sub, ab, col, del⟩ := cd
      dsimp only at hm h7 h8
      subst hm h8
      obtain rfl : del = false := by simpa using h7
      obtain ⟨ls⟩ := sl
      have e : ls = [k0, k1, k2, k3, some (.builtin "ValueError.__new__"), k5] := hs
      subst e
      exact ⟨nm, qn, ns, bs, bm, sn, sub, ab, col, dd, k0, k1, k2, k3, k5, hl, h6⟩
    · cases h
  · cases h
structure ExF (K : PySem.W.Frag) (C fI : Addr) : Prop where
  oex : OexC K C
  noV : PySem.W.findIn K (.ref C) "value" = some none
  ic : IsC K C
  i1 : PySem.W.findIn K (.ref C) "__init__" = some (some (.ref fI))
  i2 : PySem.W.typeIn K (.ref fI) = some (.type "function")
def exFB (K : PySem.W.Frag) (C fI : Addr) : Bool :=
  (exoB K C && (He.eqO (PySem.W.findIn K (.ref C) "__setattr__") (some (some (.builtin "object.__setattr__"))) && (decide (PySem.W.subIn K (.ref C) (.type "BaseException") = some true) && (decide (PySem.W.typeIn K (.ref C) = some (.type "type")) && PySem.W.keepIn K (.ref C))))) &&
  (He.eqO (PySem.W.findIn K (.ref C) "value") (some none) && ((xfB K C && ((PySem.W.clsIn K C).isSome && (He.eqO (PySem.W.findIn K (.ref C) "__class__") (some (some (.builtin "object.__class__"))) && (He.eqO (PySem.W.specialIn K (.builtin "object.__class__") "__get__") (some (some (.builtin "getset_descriptor.__get__"))) &&
    (decide (PySem.W.takesIn K (.builtin "object.__class__") = some true) && decide (PySem.W.mroIn K C (.type "object") = some true)))))) &&
  (He.eqO (PySem.W.findIn K (.ref C) "__init__") (some (some (.ref fI))) && decide (PySem.W.typeIn K (.ref fI) = some (.type "function")))))
theorem exFB_ok {K : PySem.W.Frag} {C fI : Addr} (h : exFB K C fI = true) : ExF K C fI := by
  obtain ⟨a, b⟩ := He.ba h
  obtain ⟨a1, a⟩ := He.ba a
  obtain ⟨a2, a⟩ := He.ba a
  obtain ⟨a3, a⟩ := He.ba a
  obtain ⟨a4, a5⟩ := He.ba a
  obtain ⟨b1, b⟩ := He.ba b
  obtain ⟨c, d⟩ := He.ba b
  obtain ⟨d1, d2⟩ := He.ba d
  obtain ⟨c1, c⟩ := He.ba c
  obtain ⟨c2, c⟩ := He.ba c
  obtain ⟨c3, c⟩ := He.ba c
  obtain ⟨c4, c⟩ := He.ba c
  obtain ⟨c5, c6⟩ := He.ba c
  exact ⟨⟨exoB_ok a1, He.eqO_ok a2, of_decide_eq_true a3, of_decide_eq_true a4, a5⟩, He.eqO_ok b1, ⟨xfB_ok c1, c2, He.eqO_ok c3, He.eqO_ok c4, of_decide_eq_true c5, of_decide_eq_true c6⟩, He.eqO_ok d1, of_decide_eq_true d2⟩
theorem ext_of {P : Program} {w : World} {K : PySem.W.Frag} {mg : Str → Option Value} {base : Heap} {x : Str} {C fI : Addr} {fd : FuncData} (f : ExF K C fI) (m : mg x = some (.ref C)) (F : FnOk P w K mg base CX0 1 fI fd ["self", "value"] (spEinit K)) (hb : Binds K fd ["self", "value"] []) : ExT P w K mg base x C :=
  ⟨f.oex, m, f.noV, fI, fd, f.i1, f.i2, F, hb⟩
/-- the class's name, as a value -/
theorem pe_clsn {X : Cx} {x : Str} {C : Addr} {pos : Pos} (hg : Gl X x) (hm : X.mg x = some (.ref C)) (hd : (x == ("__debug__" : Str)) = false := by decide) : PE X (.Name x pos) (fun _ H Q => Q (.ref C) H) :=
  ⟨fun pins s σ H Q I h => ld_glob I hg hm ⟨.ref C, H, I, rfl, h⟩ hd⟩
/-- x is None, of any value -/
theorem ref_non {a : Addr} : decide (V.ref a = V.non) = false := rfl
end WR
namespace WR
open PySem PySem.Spec PyProof.Rows L2 LamX
/-! ### repr of any data: also of scalars, of dicts of scalars -/
def kD : Key → PyData
  | .inl i => .int i
  | .inr s => .str s
inductive Sd : V → PyData → Prop
  | non : Sd .non .none
  | bl (b : Bool) : Sd (.bl b) (.bool b)
  | int (i : Int) : Sd (.int i) (.int i)
  | str (x : Str) : Sd (.str x) (.str x)
inductive Sds : List (Key × V) → List (PyData × PyData) → Prop
  | nil : Sds [] []
  | cons {k : Key} {v : V} {d : PyData} {kvs : List (Key × V)} {ds : List (PyData × PyData)} : Sd v d → Sds kvs ds → Sds ((k, v) :: kvs) ((kD k, d) :: ds)
inductive Da (K : PySem.W.Frag) (H : Hp) : V → PyData → Prop
  | of {v : V} {d : PyData} : Dp K H v d → Da K H v d
  | dct {a : Addr} {kvs : List (Key × V)} {ds : List (PyData × PyData)} : H a = some (.dK kvs) → Sds kvs ds → Da K H (.ref a) (.dict ds)
theorem Sd.reads {h : Heap} {v : V} {d : PyData} {u : Value} (s : Sd v d) (r : RelV v u) : Reads h u d [] := by
  cases s with
  | non => cases r; exact .none
  | bl b => cases r; exact .bool b
  | int i => obtain ⟨t, rfl⟩ := r; exact .int i t
  | str x => obtain ⟨t, rfl⟩ := r; exact .str x t
theorem Sds.reads {P : Program} {w : World} {h : Heap} : ∀ {kvs : List (Key × V)} {ds : List (PyData × PyData)} {vs : List (Key × Value)} {es : List DictEntry}, Sds kvs ds → KV kvs vs → Pairs (mixKind P w) es vs →
    ReadsAll h (es.map (·.key)) (ds.map (·.1)) [] ∧ ReadsAll h (es.map (·.val)) (ds.map (·.2)) []
  | [], _, _, _, .nil, r, p => by
    cases r
    cases p
    exact ⟨.nil, .nil⟩
  | (k, v) :: kvs, _, _, _, .cons s t, r, p => by
    cases r with
    | cons r1 r2 =>
      cases p with
      | cons p1 p2 p3 =>
        obtain ⟨q1, q2⟩ := Sds.reads t r2 p3
        obtain ⟨e1, e2⟩ := r1
        rename_i b kv es vs
        refine ⟨ReadsAll.cons (as := []) ?_ q1, ReadsAll.cons (as := []) ?_ q2⟩
        · have p1' : keyIs b.1 es.key = true := p1
          rcases keyIs_shape p1' with ⟨i, tt, z1, z2⟩ | ⟨y, tt, z1, z2⟩
          · have e : k = Sum.inl i := e1.trans z1
            show Reads h es.key (kD k) []
            rw [z2, e]
            exact .int i tt
          · have e : k = Sum.inr y := e1.trans z1
            show Reads h es.key (kD k) []
            rw [z2, e]
            exact .str y tt
        · show Reads h es.val _ []
          rw [p2]
          exact s.reads e2
section
variable {X : Cx} {k : Nat}
theorem Da.reads {pins : List (Addr × Obj)} {σ : L2.St} {H : Hp} {s : Shared} (I : Inv X pins σ H s) {v : V} {d : PyData} {u : Value} (h : Da X.K H v d) (r : RelV v u) : ∃ as, Reads s.heap u d as ∧ (d.hasDict = true → sysModules ∉ as) := by
  cases h with
  | of h =>
    obtain ⟨as, q⟩ := Dp.reads I d v u h r
    exact ⟨as, q, fun z => by rw [Dp.plain d v h] at z; cases z⟩
  | @dct a kvs ds e s1 =>
    cases r
    obtain ⟨_, hns, vs, rk, o, es, ep, ho, hx, hd, _, hp, _⟩ := I.hok a _ e
    obtain ⟨q1, q2⟩ := Sds.reads (h := s.heap) s1 rk hp
    refine ⟨_, Reads.dict ho hx.1 hd q1 q2, fun _ z => ?_⟩
    have z2 : sysModules = a := by simpa using z
    rw [z2] at hns
    simp at hns
def rReprA (K : PySem.W.Frag) : List V → Hp → VK → Prop := fun vs H Q => ∃ (v : V) (d : PyData), vs = [v] ∧ Da K H v d ∧ d.showable = true ∧ d.depth ≤ 40 ∧ d.shown.length ≤ sizeLine ∧ Q (.str d.shown) H
theorem call_reprA (hG : NoG X.A) (hr : Room k X.A) : CallR X (.builtin "repr") (rReprA X.K) := by
  intro pins s σ H xs us Q I r h
  obtain ⟨v, d, rfl, hd, hs, hdep, hz, q⟩ := h
  have hu := hr.un
  obtain ⟨u, rfl, ru⟩ := vals1 r
  have ref : ∀ a, v = .ref a → wpAny (model X.prog X.w) X.A (call (.builtin "repr") [u]) (EP X pins σ Q) X.xe s := fun a e => by
    subst e
    obtain ⟨as, rd, hsm⟩ := Da.reads I hd ru
    cases ru
    exact repr_of_reads' rd hs hsm hG (by omega) (fun b o e => e) (fun h' u tk kp => ⟨.str d.shown, H, I.kept (t' := tk) kp, ⟨u, rfl⟩, q⟩) hz
  cases hd with
  | dct e s1 => exact ref _ rfl
  | of hp =>
    cases hp with
    | lst _ _ => exact ref _ rfl
    | tup _ _ => exact ref _ rfl
    | non => cases ru; exact PySem.P.repr_of_none ⟨.str _, H, I.tok _, ⟨_, rfl⟩, q⟩
    | bl b => cases ru; exact PySem.P.repr_of_bool ⟨.str _, H, I.tok _, ⟨_, by cases b <;> rfl⟩, q⟩
    | int i =>
      obtain ⟨t, rfl⟩ := ru
      exact PySem.P.repr_of_int (of_decide_eq_true hs) ⟨.str _, H, I.tok _, ⟨_, rfl⟩, q⟩
    | str x =>
      obtain ⟨t, rfl⟩ := ru
      exact PySem.P.repr_of_str ⟨.str _, H, I.tok _, ⟨_, rfl⟩, q⟩ hz
end
end WR
namespace WR
open PySem PySem.Spec PyProof.Rows L2 LamX
section
variable {P : Program} {w : World} {K : PySem.W.Frag} {mg : Str → Option Value} {base : Heap}
/-- a def of the program that raises nothing here -/
theorem cf_of0 {x : Str} {st : Stmt} {f : Addr} {fd : FuncData} {N ps : List Str} {k : Nat} {sp : Sp} (F : FD K x st f fd) (hm : mg x = some (.ref f)) (S : FnScope N ps (defScope st)) (len : ∀ vs H Q E, sp vs H Q E → vs.length = ps.length)
    (b1 : ∀ (kV dc pm : Value) (an : Option Addr) (cdv ct : Value) (us : List Value), us.length = ps.length → bindArgs (PySem.W.fnOf x x (defArgs st) (defBody st) (defScope st) .none kV dc pm an cdv ct) ⟨us, []⟩ = pure (ps.zip us))
    (b2 : ∀ (kV dc pm : Value) (an : Option Addr) (cdv ct : Value) (us : List Value), us.length = ps.length → bindArgs (PySem.W.fnOf x x (defArgs st) (defBody st) (defScope st) .none kV dc pm an cdv ct) ⟨[], ps.zip us⟩ = pure (ps.zip us))
    (hb : ∀ (cdv : Value) (A : Around) (outer : List Env) (s : Shared) (H : Hp) (vs : List V) (Q : VK) (E : XK), Room k (A.deeper (envOfC x (defScope st) s.heap.objs.size f cdv)) → sp vs H Q E →
      ∃ t, PSs (cxOf CX0 P w K mg base N x (defScope st) f cdv A outer s H E).nox (defBody st) t ∧ t { nx := fun _ H' => Q .non H', rt := Q } (start N vs) H) : Cf CX0 P w K mg base (k + 1) x ps sp :=
  cf_of F hm S len b1 b2 fun cdv A outer s H vs Q E hr h => by
    obtain ⟨t, h1, h2⟩ := hb cdv A outer s H vs Q E hr h
    exact ⟨t, h1.nox, h2⟩
/-- a def that makes lambdas: its code object is told -/
theorem cg_ofM {x : Str} {st : Stmt} {fd : FuncData} {N ps : List Str} {k : Nat} {sp : Sp} (F : FD K x st (He.fAd K (x, none)) fd) (hm : mg x = some (.ref (He.fAd K (x, none)))) (S : FnScope N ps (defScope st)) (len : ∀ vs H Q E, sp vs H Q E → vs.length = ps.length)
    (b1 : ∀ (kV dc pm : Value) (an : Option Addr) (cdv ct : Value) (us : List Value), us.length = ps.length → bindArgs (PySem.W.fnOf x x (defArgs st) (defBody st) (defScope st) .none kV dc pm an cdv ct) ⟨us, []⟩ = pure (ps.zip us))
    (b2 : ∀ (kV dc pm : Value) (an : Option Addr) (cdv ct : Value) (us : List Value), us.length = ps.length → bindArgs (PySem.W.fnOf x x (defArgs st) (defBody st) (defScope st) .none kV dc pm an cdv ct) ⟨[], ps.zip us⟩ = pure (ps.zip us))
    (hb : ∀ (A : Around) (outer : List Env) (s : Shared) (H : Hp) (vs : List V) (Q : VK) (E : XK), NoG (A.deeper (envOfC x (defScope st) s.heap.objs.size (He.fAd K (x, none)) (.ref (He.codeOf K (x, none))))) → Room k (A.deeper (envOfC x (defScope st) s.heap.objs.size (He.fAd K (x, none)) (.ref (He.codeOf K (x, none))))) → sp vs H Q E →
      ∃ t, PSs (cxOf CX0 P w K mg base N x (defScope st) (He.fAd K (x, none)) (.ref (He.codeOf K (x, none))) A outer s H E).nox (defBody st) t ∧ t { nx := fun _ H' => Q .non H', rt := Q } (start N vs) H) : Cg P w K mg base (k + 1) x ps sp := by
  have kp := F.kp
  obtain ⟨oc, od, dV, kV, dc, pm, an, cdv, ct, sl, rfl, lk, hcd, hD, _⟩ := F.ex
  obtain ⟨c, rfl⟩ := He.codeIn_ref hcd
  have ec : He.codeOf K (x, none) = c := He.codeOf_eq lk rfl
  rcases hD with ⟨_, rfl⟩ | ⟨e, _⟩
  · refine ⟨_, _, fnG_of lk hcd S len fun A outer s H vs Q E hG hr hsp => ?_, hm, kp, fun s us hl => .of_eq (b1 kV dc pm an _ ct us hl), fun s us hl => .of_eq (b2 kV dc pm an _ ct us hl)⟩
    rw [← ec] at hG hr ⊢
    obtain ⟨t, h1, h2⟩ := hb A outer s H vs Q E hG hr hsp
    exact ⟨t, h1.nox, h2⟩
  · exact absurd rfl e
/-- what _law_heard promises; p0: the pair of None and None -/
def spHeard (K : PySem.W.Frag) : SpL := fun tl vs1 vs2 H Q => vs1 = [] ∧ vs2 = [] ∧ ∀ p0, H p0 = none →
  tl (fun cls d H' => PySem.W.exmOne K cls (.ref (He.ga K "FlashError")) = some true ∧ ∀ a, H' a = none → ∀ p, upd H' a (ExA cls d a) p = none → Q (.ref p) (upd (upd H' a (ExA cls d a)) p (.tup [.ref a, .non]))) (upd H p0 (.tup [.non, .non]))
    (fun v H' => ∀ p, H' p = none → Q (.ref p) (upd H' p (.tup [.non, v])))
end
theorem tab_start {K : PySem.W.Frag} {H : Hp} {T : List (Addr × Str)} (h : ∀ p ∈ T, H p.1 = some (.tbl #[])) : Tabs T H := fun p hp => TabS.nil (h p hp)
theorem Same.ext {H H' : Hp} (s : Same H H') : ExtN H H' := ExtN.of s
theorem ExtN.put {H H' : Hp} {p : Addr} {o : HO} (e : ExtN H H') (h : H p = none) : ExtN H (upd H' p o) := fun b u q n => by rw [upd_ne (ne_of_none q h)]; exact e b u q n
end WR
namespace WR
open PySem PySem.Spec PyProof.Rows L2 LamX
/-! ### all but the tables stays: data stays -/
section
variable {K : PySem.W.Frag} {H H' : Hp}
theorem ext_l {a : Addr} {xs : List V} (e : ExtN H H') (h : SqL K H a xs) : SqL K H' a xs := by
  rcases h with (h | ⟨o, h⟩) | h
  · exact .inl (.inl (e _ _ h fun ps z => nomatch z))
  · exact .inl (.inr ⟨o, e _ _ h fun ps z => nomatch z⟩)
  · exact .inr h
theorem ext_t {a : Addr} {xs : List V} (e : ExtN H H') (h : SqT K H a xs) : SqT K H' a xs := by
  rcases h with (h | ⟨o, h⟩) | h
  · exact .inl (.inl (e _ _ h fun ps z => nomatch z))
  · exact .inl (.inr ⟨o, e _ _ h fun ps z => nomatch z⟩)
  · exact .inr h
mutual
theorem Dp.ext : ∀ (d : PyData) (v : V), ExtN H H' → Dp K H v d → Dp K H' v d
  | .none, _, _, h => by cases h; exact .non
  | .bool b, _, _, h => by cases h; exact .bl b
  | .int i, _, _, h => by cases h; exact .int i
  | .str x, _, _, h => by cases h; exact .str x
  | .list ds, _, e, h => by
    cases h with
    | lst hs ha => exact .lst (ext_l e hs) (Dp.extAll ds _ e ha)
  | .tuple ds, _, e, h => by
    cases h with
    | tup hs ha => exact .tup (ext_t e hs) (Dp.extAll ds _ e ha)
  | .dict _, _, _, h => by cases h
theorem Dp.extAll : ∀ (ds : List PyData) (vs : List V), ExtN H H' → DpAll K H vs ds → DpAll K H' vs ds
  | [], _, _, h => by cases h; exact .nil
  | d :: ds, _, e, h => by
    cases h with
    | cons h1 h2 => exact .cons (Dp.ext d _ e h1) (Dp.extAll ds _ e h2)
end
theorem Da.ext {v : V} {d : PyData} (e : ExtN H H') (h : Da K H v d) : Da K H' v d := by
  cases h with
  | of h => exact .of (Dp.ext d v e h)
  | dct h s => exact .dct (e _ _ h fun ps z => nomatch z) s
/-- a text, or of another type -/
theorem Da.ty {v : V} {d : PyData} (h : Da K H v d) : (∃ x, d = .str x ∧ v = .str x) ∨ ((∀ x, d ≠ .str x) ∧ (∀ x, v ≠ .str x) ∧ ∃ t : String, TyX K H v (.type t) ∧ kitB t "str" = some false) := by
  cases h with
  | dct h s => exact .inr ⟨(fun x z => nomatch z), (fun x z => nomatch z), "dict", .base (.dK h), by decide +kernel⟩
  | of h =>
    cases h with
    | non => exact .inr ⟨(fun x z => nomatch z), (fun x z => nomatch z), "NoneType", .base .non, by decide +kernel⟩
    | bl b => exact .inr ⟨(fun x z => nomatch z), (fun x z => nomatch z), "bool", .base (.bl b), by decide +kernel⟩
    | int i => exact .inr ⟨(fun x z => nomatch z), (fun x z => nomatch z), "int", .base (.int i), by decide +kernel⟩
    | str x => exact .inl ⟨x, rfl, rfl⟩
    | lst hs _ =>
      refine .inr ⟨(fun x z => nomatch z), (fun x z => nomatch z), "list", ?_, by decide +kernel⟩
      rcases hs with (h | ⟨o, h⟩) | ⟨o, its, n, h1, h2, _⟩
      · exact .base (.lst h)
      · exact .base (.frz h)
      · exact .kList h1 h2
    | tup hs _ =>
      refine .inr ⟨(fun x z => nomatch z), (fun x z => nomatch z), "tuple", ?_, by decide +kernel⟩
      rcases hs with (h | ⟨o, h⟩) | ⟨o, its, n, h1, h2, _⟩
      · exact .base (.tup h)
      · exact .fTuple h
      · exact .kTuple h1 h2
end
theorem S_of (x : Str) : S x.cps.toList = x := by
  obtain ⟨a⟩ := x
  show (⟨a.toList.toArray⟩ : Str) = ⟨a⟩
  simp
/-! ### one object written, the tables perhaps grown -/
def ButN (a : Addr) (H H' : Hp) : Prop := ∀ b o, b ≠ a → (∀ ps, o ≠ .tbl ps) → H b = some o → H' b = some o
section
variable {a p : Addr} {H H1 H2 : Hp} {o : HO}
theorem ButN.refl (a : Addr) (H : Hp) : ButN a H H := fun _ _ _ _ e => e
theorem ButN.trans (x : ButN a H H1) (y : ButN a H1 H2) : ButN a H H2 := fun b u n t e => y b u n t (x b u n t e)
theorem ButN.of (x : But a H H1) : ButN a H H1 := fun b u n _ e => x b u n e
theorem ButN.ofE (x : ExtN H H1) : ButN a H H1 := fun b u _ t e => x b u e t
theorem ButN.ofS (x : Same H H1) : ButN a H H1 := fun b u _ _ e => x b u e
theorem ButN.ext (x : ButN a H H1) (h : H a = none) : ExtN H H1 := fun b u e t => x b u (ne_of_none e h) t e
theorem ButN.putn (x : ButN a H H1) (h : H p = none) : ButN a H (upd H1 p o) := fun b u n t e => by rw [upd_ne (ne_of_none e h)]; exact x b u n t e
theorem tabs_but {T : List (Addr × Str)} {xs : List V} (t : Tabs T H) (h : H a = some (.lst xs)) (x : But a H H1) : Tabs T H1 := fun q hq => by
  obtain ⟨ps, h1, h2, h3⟩ := t q hq
  refine ⟨ps, x _ _ (ne_of h1 h (by intro z; cases z)) h1, h2, fun pos cv hc => ?_⟩
  obtain ⟨c, e1, e2⟩ := h3 pos cv hc
  exact ⟨c, e1, x _ _ (ne_of e2 h (by intro z; cases z)) e2⟩
end
end WR
namespace WR
open PySem PySem.Spec PyProof.Rows L2 LamX
/-! ### displays of data -/
structure FineD (d : PyData) : Prop where
  sh : d.showable = true
  dp : d.depth ≤ 40
  sz : d.shown.length ≤ sizeLine
  tx : ∀ x, d = .str x → x.cps.toList.length ≤ 100000
def fineB (d : PyData) : Bool := d.showable && (decide (d.depth ≤ 40) && (decide (d.shown.length ≤ 1000) && (match d with
  | .str x => decide (x.cps.toList.length ≤ 1000)
  | _ => true)))
theorem fine_of {d : PyData} (h : fineB d = true) : FineD d := by
  obtain ⟨h1, h⟩ := He.ba h
  obtain ⟨h2, h⟩ := He.ba h
  obtain ⟨h3, h4⟩ := He.ba h
  refine ⟨h1, of_decide_eq_true h2, Nat.le_trans (of_decide_eq_true h3) (by rw [sizeLine_eq]; decide), fun x e => ?_⟩
  subst e
  exact Nat.le_trans (of_decide_eq_true h4) (by decide)
section
variable {K : PySem.W.Frag} {σ : L2.St}
/-- all of these are data -/
def Acc (K : PySem.W.Frag) (H : Hp) (xs : List V) : Prop := ∀ x ∈ xs, ∃ d, Da K H x d ∧ FineD d
theorem Acc.nil {H : Hp} : Acc K H [] := fun x h => nomatch h
theorem Acc.ext {H H2 : Hp} {xs : List V} (h : Acc K H xs) (e : ExtN H H2) : Acc K H2 xs := fun x hx => by
  obtain ⟨d, h1, h2⟩ := h x hx
  exact ⟨d, h1.ext e, h2⟩
theorem Acc.cons {H : Hp} {xs : List V} {v : V} {d : PyData} (h : Acc K H xs) (hd : Da K H v d) (f : FineD d) : Acc K H (v :: xs) := fun x hx => by
  rcases List.mem_cons.mp hx with z | z
  · rw [z]; exact ⟨d, hd, f⟩
  · exact h x z
theorem Acc.app {H : Hp} {xs ys : List V} (h : Acc K H xs) (g : Acc K H ys) : Acc K H (xs ++ ys) := fun x hx => by
  rcases List.mem_append.mp hx with z | z
  · exact h x z
  · exact g x z
/-- what is new since H0 -/
def NP (H0 H : Hp) : Hp := fun b => if (H0 b).isNone then H b else none
theorem NP.at_ {H0 H : Hp} {b : Addr} {o : HO} (n : H0 b = none) (h : H b = some o) : NP H0 H b = some o := by unfold NP; rw [n]; exact h
theorem NP.of {H0 H : Hp} {b : Addr} {o : HO} (h : NP H0 H b = some o) : H0 b = none ∧ H b = some o := by
  unfold NP at h
  cases q : H0 b with
  | none => rw [q] at h; exact ⟨rfl, h⟩
  | some u => rw [q] at h; cases h
theorem NP.ext {H0 H1 H2 : Hp} (s : Same H1 H2) : ExtN (NP H0 H1) (NP H0 H2) := fun b o h _ => NP.at_ (NP.of h).1 (s _ _ (NP.of h).2)
theorem NP.down {H0 H1 H2 : Hp} (s : Same H0 H1) : ExtN (NP H1 H2) (NP H0 H2) := fun b o h _ => NP.at_ (s.free (NP.of h).1) (NP.of h).2
theorem NP.all {H0 H1 : Hp} : ExtN (NP H0 H1) H1 := fun b o h _ => (NP.of h).2
theorem NP.but {H0 H1 H2 : Hp} {a : Addr} (n : H0 a ≠ none) (s : But a H1 H2) : ExtN (NP H0 H1) H2 := fun b o h _ => s b o (fun z => n (by rw [← z]; exact (NP.of h).1)) (NP.of h).2
def EvP (K : PySem.W.Frag) (σ : L2.St) (te : TE) (d : PyData) : Prop := ∀ (H : Hp) (Q : VK), (∀ v H2, Same H H2 → Dp K (NP H H2) v d → Q v H2) → te σ H Q
def EvD (K : PySem.W.Frag) (σ : L2.St) (te : TE) (d : PyData) : Prop := ∀ (H : Hp) (Q : VK), (∀ v H2, Same H H2 → Da K (NP H H2) v d → Q v H2) → te σ H Q
def EvPs (K : PySem.W.Frag) (σ : L2.St) (n : Nat) (ta : TA) (ds : List PyData) : Prop := ∀ (H : Hp) (Q : List V → Hp → Prop), (∀ vs H2, Same H H2 → DpAll K (NP H H2) vs ds → vs.length = n → Q vs H2) → ta σ H Q
def EvL (K : PySem.W.Frag) (σ : L2.St) (n : Nat) (ta : TA) : Prop := ∀ (H : Hp) (Q : List V → Hp → Prop), (∀ vs H2, Same H H2 → Acc K (NP H H2) vs → vs.length = n → Q vs H2) → ta σ H Q
theorem ev_non : EvP K σ (tC .non) .none := fun H Q h => h _ _ (Same.refl _) .non
theorem ev_bl {b : Bool} : EvP K σ (tC (.bl b)) (.bool b) := fun H Q h => h _ _ (Same.refl _) (.bl b)
theorem ev_int {i : Int} : EvP K σ (tC (.int i)) (.int i) := fun H Q h => h _ _ (Same.refl _) (.int i)
theorem ev_str {s : Str} : EvP K σ (tC (.str s)) (.str s) := fun H Q h => h _ _ (Same.refl _) (.str s)
theorem ev_neg {i : Int} : EvP K σ (tUn (rU fun i => .int (-i)) (tC (.int i))) (.int (-i)) := fun H Q h => ⟨i, rfl, h _ _ (Same.refl _) (.int _)⟩
theorem ev_sub {i j : Int} : EvP K σ (tOp (rI0 fun i j => .int (i - j)) (tC (.int i)) (tC (.int j))) (.int (i - j)) := fun H Q h => ⟨i, j, rfl, rfl, h _ _ (Same.refl _) (.int _)⟩
theorem ev_pow {i j : Int} (c : CPowW i j) : EvP K σ (tOp (rI CPowW fun i j => .int (i ^ j.toNat)) (tC (.int i)) (tC (.int j))) (.int (i ^ j.toNat)) := fun H Q h => ⟨i, j, rfl, rfl, c, h _ _ (Same.refl _) (.int _)⟩
theorem evs_nil : EvPs K σ 0 tNil [] := fun H Q h => h _ _ (Same.refl _) .nil rfl
theorem evs_cons {n : Nat} {te : TE} {ta : TA} {d : PyData} {ds : List PyData} (h1 : EvP K σ te d) (h2 : EvPs K σ n ta ds) : EvPs K σ (n + 1) (tCons te ta) (d :: ds) := fun H Q h =>
  h1 H _ fun v H1 s1 p1 => h2 H1 _ fun vs H2 s2 p2 l => h _ _ (s1.trans s2) (.cons (Dp.ext d v (NP.ext s2) p1) (Dp.extAll ds vs (NP.down s1) p2)) (by rw [List.length_cons, l])
theorem ev_tup {n : Nat} {ta : TA} {ds : List PyData} (h : EvPs K σ n ta ds) (hn : n ≤ 1000) : EvP K σ (tTup ta) (.tuple ds) := fun H Q k =>
  h H _ fun vs H1 s1 p1 l => ⟨by rw [l, sizeLine_eq]; omega, fun p hp => k _ _ (s1.put (s1.free hp)) (.tup (SqT.of (NP.at_ (s1.free hp) upd_same)) (Dp.extAll ds vs (NP.ext (Same.new hp)) p1))⟩
theorem ev_lst {n : Nat} {ta : TA} {ds : List PyData} (h : EvPs K σ n ta ds) (hn : n ≤ 1000) : EvP K σ (tLst ta) (.list ds) := fun H Q k =>
  h H _ fun vs H1 s1 p1 l => ⟨by rw [l, sizeLine_eq]; omega, fun p hp => k _ _ (s1.put (s1.free hp)) (.lst (SqL.of (NP.at_ (s1.free hp) upd_same)) (Dp.extAll ds vs (NP.ext (Same.new hp)) p1))⟩
theorem ev_dnew : EvD K σ tDNewK (.dict []) := fun H Q k p hp => k _ _ (Same.new hp) (.dct (NP.at_ hp upd_same) .nil)
theorem ev_d1 {x : Str} {i : Int} : EvD K σ (tDisp [(tC (.str x), tC (.int i))]) (.dict [(.str x, .int i)]) := fun H Q k p hp => by
  refine ⟨upd_same, [(.inr x, .int i)], rfl, (by show 1 ≤ 15; decide), ?_⟩
  exact k _ _ (Same.put (Same.new hp) hp) (.dct (NP.at_ hp upd_same) (.cons (.int i) .nil))
theorem evl_nil : EvL K σ 0 tNil := fun H Q h => h _ _ (Same.refl _) Acc.nil rfl
theorem evl_d {n : Nat} {te : TE} {ta : TA} {d : PyData} (h1 : EvD K σ te d) (f : FineD d) (h2 : EvL K σ n ta) : EvL K σ (n + 1) (tCons te ta) := fun H Q h =>
  h1 H _ fun v H1 s1 p1 => h2 H1 _ fun vs H2 s2 p2 l => h _ _ (s1.trans s2) (Acc.cons (Acc.ext p2 (NP.down s1)) (p1.ext (NP.ext s2)) f) (by rw [List.length_cons, l])
theorem evl_p {n : Nat} {te : TE} {ta : TA} {d : PyData} (h1 : EvP K σ te d) (f : FineD d) (h2 : EvL K σ n ta) : EvL K σ (n + 1) (tCons te ta) :=
  evl_d (fun H Q h => h1 H Q fun v H2 s p => h v H2 s (.of p)) f h2
end
end WR
namespace WR
open PySem PySem.Spec PyProof.Rows L2 LamX
theorem evl_lst {K : PySem.W.Frag} {σ : L2.St} {n : Nat} {ta : TA} {H : Hp} {Q : VK} (h : EvL K σ n ta) (hn : n ≤ 1000) (k : ∀ xs H1, Same H H1 → Acc K (NP H H1) xs → xs.length = n → ∀ p, H1 p = none → Q (.ref p) (upd H1 p (.lst xs))) : tLst ta σ H Q :=
  h H _ fun xs H1 s a l => ⟨by rw [l, sizeLine_eq]; omega, fun p hp => k xs H1 s a l p hp⟩
end WR
namespace WR
open PySem PySem.Spec PyProof.Rows L2 LamX
theorem seq_asg {te : TE} {tg : TG} {ts : TS} {D : Ends} {σ : L2.St} {H : Hp} : tSeq (tAsg te tg) ts D σ H = te σ H fun v H1 => tg v σ H1 (ts D) := rfl
end WR
namespace WR
open PySem PySem.Spec PyProof.Rows L2 LamX
section
variable {K : PySem.W.Frag} {σ : L2.St}
/-- short texts of signs -/
def Sm (l : List Nat) : Prop := l.length ≤ 1000 ∧ ∀ c ∈ l, c < 1114112
theorem fineS {l : List Nat} (h : Sm l) : FineD (.str (S l)) := by
  refine ⟨rfl, by show 0 ≤ 40; decide, ?_, fun x e => ?_⟩
  · have := StrLaws.reprText_len (S l) (fun c hc => by
      rw [S_cps] at hc
      have := h.2 c hc
      have : (1114112 : Nat) ≤ 16 ^ 8 := by decide
      omega)
    rw [S_len l] at this
    have h1 := h.1
    show (reprText (S l)).length ≤ _
    rw [sizeLine_eq]
    omega
  · cases e
    rw [S_cps]
    have := h.1
    omega
theorem evl_s {n : Nat} {te : TE} {ta : TA} {l : List Nat} (h1 : ∀ (H : Hp) (Q : VK), Q (.str (S l)) H → te σ H Q) (f : Sm l) (h2 : EvL K σ n ta) : EvL K σ (n + 1) (tCons te ta) :=
  evl_p (fun H Q h => h1 H Q (h _ _ (Same.refl _) (.str _))) (fineS f) h2
theorem ev_s {te : TE} {l : List Nat} (h1 : ∀ (H : Hp) (Q : VK), Q (.str (S l)) H → te σ H Q) : EvP K σ te (.str (S l)) := fun H Q h => h1 H Q (h _ _ (Same.refl _) (.str _))
theorem Sm.app {a b : List Nat} (h1 : Sm a) (h2 : Sm b) (h : a.length + b.length ≤ 1000) : Sm (a ++ b) := ⟨by rw [List.length_append]; exact h, fun c hc => by
  rcases List.mem_append.mp hc with z | z
  · exact h1.2 c z
  · exact h2.2 c z⟩
theorem Sm.take {a : List Nat} (h : Sm a) (n : Nat) : Sm (a.take n) := ⟨by have := h.1; rw [List.length_take]; omega, fun c hc => h.2 c (List.mem_of_mem_take hc)⟩
theorem Sm.drop {a : List Nat} (h : Sm a) (n : Nat) : Sm (a.drop n) := ⟨by have := h.1; rw [List.length_drop]; omega, fun c hc => h.2 c (List.mem_of_mem_drop hc)⟩
theorem Sm.rep {c n : Nat} (h : c < 1114112) (hn : n ≤ 1000) : Sm (List.replicate n [c]).flatten := by
  have e : (List.replicate n [c]).flatten = List.replicate n c := by
    induction n with
    | zero => rfl
    | succ n ih => rw [List.replicate_succ, List.flatten_cons, ih (by omega), List.replicate_succ]; rfl
  rw [e]
  exact ⟨by rw [List.length_replicate]; exact hn, fun d hd => by rw [List.eq_of_mem_replicate hd]; exact h⟩
theorem fine_l1 {l : List Nat} (h : Sm l) : FineD (.list [.str (S l)]) ∧ FineD (.tuple [.str (S l)]) := by
  have f := fineS h
  have h1 := StrLaws.reprText_len (S l) (fun c hc => by
      rw [S_cps] at hc
      have := h.2 c hc
      have : (1114112 : Nat) ≤ 16 ^ 8 := by decide
      omega)
  rw [S_len l] at h1
  have h2 := h.1
  refine ⟨⟨rfl, ?_, ?_, fun x e => by cases e⟩, ⟨rfl, ?_, ?_, fun x e => by cases e⟩⟩
  · exact of_decide_eq_true rfl
  · show ((("[" : Str) ++ reprText (S l)) ++ ("]" : Str)).length ≤ _
    rw [strLen_append, strLen_append, sizeLine_eq]
    have e1 : (("[" : String) : Str).length = 1 := rfl
    have e2 : (("]" : String) : Str).length = 1 := rfl
    omega
  · exact of_decide_eq_true rfl
  · show (("(" : Str) ++ Str.join ", " [reprText (S l)] ++ (if [reprText (S l)].length == 1 then ",)" else ")" : String)).length ≤ _
    rw [strLen_append, strLen_append, sizeLine_eq]
    have e1 : (("(" : String) : Str).length = 1 := rfl
    have e2 : ((if [reprText (S l)].length == 1 then ",)" else ")" : String) : Str).length = 2 := rfl
    have e3 := join_length_add [reprText (S l)] (by simp)
    simp only [piled_cons, piled_nil] at e3
    omega
end
end WR

namespace WR
open PySem PySem.Spec PyProof.Rows L2 LamX
/-- upper of cells -/
theorem upper_cells {l : List Nat} (h : WM.Cells l) : Txt.upper (S l) = S (l.map fun c => if 97 ≤ c then c - 32 else c) := by
  have e : ∀ c, WM.IsCell c → Unicode.upperOf c = [if 97 ≤ c then c - 32 else c] := by
    intro c hc
    unfold WM.IsCell at hc
    have : c = 48 ∨ c = 49 ∨ c = 50 ∨ c = 51 ∨ c = 52 ∨ c = 53 ∨ c = 54 ∨ c = 55 ∨ c = 56 ∨ c = 57 ∨ c = 97 ∨ c = 98 ∨ c = 99 ∨ c = 100 ∨ c = 101 ∨ c = 102 := by omega
    rcases this with rfl | rfl | rfl | rfl | rfl | rfl | rfl | rfl | rfl | rfl | rfl | rfl | rfl | rfl | rfl | rfl <;> decide +kernel
  show (⟨((S l).cps.mapIdx fun _ c => (Unicode.upperOf c).toArray).flatten⟩ : Str) = _
  have e2 : ((S l).cps.mapIdx fun _ c => (Unicode.upperOf c).toArray) = (l.map fun c => #[if 97 ≤ c then c - 32 else c]).toArray := by
    apply Array.ext'
    simp only [Array.toList_mapIdx, SX.S]
    rw [List.mapIdx_eq_zipIdx_map]
    apply List.ext_getElem (by simp)
    intro i h1 h2
    simp only [List.getElem_map, List.getElem_zipIdx]
    have hi : i < l.length := by simpa using h2
    rw [e _ (h _ (List.getElem_mem hi))]
  rw [e2]
  congr 1
  apply Array.ext'
  simp [SX.S]
  clear e2 h
  induction l with
  | nil => rfl
  | cons c l ih => rw [List.map_cons, List.flatten_cons, ih, List.map_cons]; rfl
end WR
namespace WR
open PySem PySem.Spec PyProof.Rows L2 LamX
theorem gname_eq {i : Nat} {v : V} {σ : L2.St} {H : Hp} {N : L2.St → Hp → Prop} : gName i v σ H N = N (σ.set i (some v)) H := rfl
theorem drop_eq {te : TE} {ts : TS} {D : Ends} {σ : L2.St} {H : Hp} : tSeq (tDrop te) ts D σ H = te σ H fun _ H1 => ts D σ H1 := rfl
end WR
namespace WR
open PySem PySem.Spec PyProof.Rows L2 LamX
/-! ### methods and properties of an own class -/
abbrev FDm (K : PySem.W.Frag) (m qual : Str) (st : Stmt) (f : Addr) (fd : FuncData) : Prop := FunD K m qual (defArgs st) (defBody st) (defScope st) [] [] f fd
structure Mf (CX : CXT) (P : Program) (w : World) (K : PySem.W.Frag) (mg : Str → Option Value) (base : Heap) (k : Nat) (C : Addr) (m : Str) (ps : List Str) (sp : Sp) : Prop where
  ex : ∃ (f : Addr) (fd : FuncData), Meth K C m f ∧ FnOk P w K mg base CX k f fd ps sp ∧ Binds K fd ps []
structure Pf (P : Program) (w : World) (K : PySem.W.Frag) (mg : Str → Option Value) (base : Heap) (k : Nat) (C : Addr) (m : Str) (sp : Sp) : Prop where
  ex : ∃ (p f : Addr) (fd : FuncData), PropOf K C m p f ∧ FnOk P w K mg base CX0 k f fd ["self"] sp ∧ Binds K fd ["self"] []
section
variable {CX : CXT} {P : Program} {w : World} {K : PySem.W.Frag} {mg : Str → Option Value} {base : Heap}
theorem fm_of {m qual : Str} {st : Stmt} {f : Addr} {fd : FuncData} {N ps : List Str} {k : Nat} {sp : Sp} (F : FDm K m qual st f fd) (S : FnScope N ps (defScope st)) (len : ∀ vs H Q E, sp vs H Q E → vs.length = ps.length)
    (b1 : ∀ (kV dc pm : Value) (an : Option Addr) (cdv ct : Value) (us : List Value), us.length = ps.length → bindArgs (PySem.W.fnOf m qual (defArgs st) (defBody st) (defScope st) .none kV dc pm an cdv ct) ⟨us, []⟩ = pure (ps.zip us))
    (hb : ∀ (cdv : Value) (A : Around) (outer : List Env) (s : Shared) (H : Hp) (vs : List V) (Q : VK) (E : XK), Room k (A.deeper (envOfC qual (defScope st) s.heap.objs.size f cdv)) → sp vs H Q E →
      ∃ t, PSs (cxOf CX P w K mg base N qual (defScope st) f cdv A outer s H E) (defBody st) t ∧ t { nx := fun _ H' => Q .non H', rt := Q } (start N vs) H) : FnOk P w K mg base CX (k + 1) f fd ps sp ∧ Binds K fd ps [] :=
  ⟨F.ok S len hb, F.bindsN b1⟩
theorem mf_of {C : Addr} {m qual : Str} {st : Stmt} {f : Addr} {fd : FuncData} {N ps : List Str} {k : Nat} {sp : Sp} (F : FDm K m qual st f fd) (hm : Meth K C m f) (S : FnScope N ps (defScope st)) (len : ∀ vs H Q E, sp vs H Q E → vs.length = ps.length)
    (b1 : ∀ (kV dc pm : Value) (an : Option Addr) (cdv ct : Value) (us : List Value), us.length = ps.length → bindArgs (PySem.W.fnOf m qual (defArgs st) (defBody st) (defScope st) .none kV dc pm an cdv ct) ⟨us, []⟩ = pure (ps.zip us))
    (hb : ∀ (cdv : Value) (A : Around) (outer : List Env) (s : Shared) (H : Hp) (vs : List V) (Q : VK) (E : XK), Room k (A.deeper (envOfC qual (defScope st) s.heap.objs.size f cdv)) → sp vs H Q E →
      ∃ t, PSs (cxOf CX P w K mg base N qual (defScope st) f cdv A outer s H E) (defBody st) t ∧ t { nx := fun _ H' => Q .non H', rt := Q } (start N vs) H) : Mf CX P w K mg base (k + 1) C m ps sp := by
  obtain ⟨a, b⟩ := fm_of F S len b1 hb
  exact ⟨f, fd, hm, a, b⟩
/-- one that raises nothing here -/
theorem mf_of0 {C : Addr} {m qual : Str} {st : Stmt} {f : Addr} {fd : FuncData} {N ps : List Str} {k : Nat} {sp : Sp} (F : FDm K m qual st f fd) (hm : Meth K C m f) (S : FnScope N ps (defScope st)) (len : ∀ vs H Q E, sp vs H Q E → vs.length = ps.length)
    (b1 : ∀ (kV dc pm : Value) (an : Option Addr) (cdv ct : Value) (us : List Value), us.length = ps.length → bindArgs (PySem.W.fnOf m qual (defArgs st) (defBody st) (defScope st) .none kV dc pm an cdv ct) ⟨us, []⟩ = pure (ps.zip us))
    (hb : ∀ (cdv : Value) (A : Around) (outer : List Env) (s : Shared) (H : Hp) (vs : List V) (Q : VK) (E : XK), Room k (A.deeper (envOfC qual (defScope st) s.heap.objs.size f cdv)) → sp vs H Q E →
      ∃ t, PSs (cxOf CX0 P w K mg base N qual (defScope st) f cdv A outer s H E).nox (defBody st) t ∧ t { nx := fun _ H' => Q .non H', rt := Q } (start N vs) H) : Mf CX0 P w K mg base (k + 1) C m ps sp :=
  mf_of F hm S len b1 fun cdv A outer s H vs Q E hr h => by
    obtain ⟨t, h1, h2⟩ := hb cdv A outer s H vs Q E hr h
    exact ⟨t, h1.nox, h2⟩
theorem pf_of {C p : Addr} {m qual : Str} {st : Stmt} {f : Addr} {fd : FuncData} {N : List Str} {k : Nat} {sp : Sp} (F : FDm K m qual st f fd) (hp : PropOf K C m p f) (S : FnScope N ["self"] (defScope st)) (len : ∀ vs H Q E, sp vs H Q E → vs.length = (["self"] : List Str).length)
    (b1 : ∀ (kV dc pm : Value) (an : Option Addr) (cdv ct : Value) (us : List Value), us.length = (["self"] : List Str).length → bindArgs (PySem.W.fnOf m qual (defArgs st) (defBody st) (defScope st) .none kV dc pm an cdv ct) ⟨us, []⟩ = pure ((["self"] : List Str).zip us))
    (hb : ∀ (cdv : Value) (A : Around) (outer : List Env) (s : Shared) (H : Hp) (vs : List V) (Q : VK) (E : XK), Room k (A.deeper (envOfC qual (defScope st) s.heap.objs.size f cdv)) → sp vs H Q E →
      ∃ t, PSs (cxOf CX0 P w K mg base N qual (defScope st) f cdv A outer s H E).nox (defBody st) t ∧ t { nx := fun _ H' => Q .non H', rt := Q } (start N vs) H) : Pf P w K mg base (k + 1) C m sp := by
  obtain ⟨a, b⟩ := fm_of (CX := CX0) F S len b1 fun cdv A outer s H vs Q E hr h => by
    obtain ⟨t, h1, h2⟩ := hb cdv A outer s H vs Q E hr h
    exact ⟨t, h1.nox, h2⟩
  exact ⟨p, f, fd, hp, a, b⟩
end
/-- o.m(e, ..): the object stands there and has no attribute of that name; the method's promise -/
def tMw (C : Addr) (m : Str) (sp : Sp) (W : WX) (ta : TE) (t : TA) : TE := fun σ H Q => ta σ H fun x H1 => ∃ a dx fs, x = .ref a ∧ H1 a = some (.ins C dx fs) ∧ fs.lookup m = none ∧ t σ H1 fun vs H2 => sp (x :: vs) H2 Q fun cls d H3 => W cls d σ H3
def tM (C : Addr) (m : Str) (sp : Sp) (ta : TE) (t : TA) : TE := fun σ H Q => ta σ H fun x H1 => ∃ a dx fs, x = .ref a ∧ H1 a = some (.ins C dx fs) ∧ fs.lookup m = none ∧ t σ H1 fun vs H2 => sp (x :: vs) H2 Q E0
def tP (C : Addr) (sp : Sp) (ta : TE) : TE := fun σ H Q => ta σ H fun x H1 => ∃ a dx fs, x = .ref a ∧ H1 a = some (.ins C dx fs) ∧ sp [.ref a] H1 Q E0
section
variable {X : Cx} {C : Addr} {m : Str} {ps : List Str} {k j : Nat} {sp : Sp} {apos pos : Pos} {o e : Expr} {es : List Expr} {t : TA} {ta : TE}
theorem pe_m {pl : Sem Bool} (M : Mf CX0 X.prog X.w X.K X.mg X.base k C m ps sp) (he : PE X o ta) (c : Cls X.K C) (hr : Room j X.A) (hk : k ≤ j) (ha : PA X (e :: es) t)
    (hst : starEach (e :: es) X.env = (false, eval e X.env) :: starEach es X.env := by rfl) (hpl : (backTo pos (starEach es X.env)).any (·.1) = false := by rfl)
    (ht : eval (.Call (.Attribute o m apos) (e :: es) [] pos) X.env = (do
      let ov ← eval o X.env
      standAt apos.atName
      let (f, first) ← holding [ov] (getMethod ov m pl)
      callWith pos f first (backTo pos (starEach (e :: es) X.env)) (backToKw pos (keywordEach [] X.env))) := by rfl) :
    PE X (.Call (.Attribute o m apos) (e :: es) [] pos) (tM C m sp ta t) := by
  obtain ⟨f, fd, hm, F, hb⟩ := M.ex
  refine ⟨fun pins s σ H Q I h => ?_⟩
  refine (pe_meth he c hm F (hr.mono hk) hb .nil pass0 ha hst hpl ht).run pins s σ H Q I ?_
  show ta σ H _
  simp only [List.append_nil]
  exact h
theorem pe_m0 {pl : Sem Bool} (M : Mf CX0 X.prog X.w X.K X.mg X.base k C m ps sp) (he : PE X o ta) (c : Cls X.K C) (hr : Room j X.A) (hk : k ≤ j)
    (ht : eval (.Call (.Attribute o m apos) [] [] pos) X.env = (do
      let ov ← eval o X.env
      standAt apos.atName
      let (f, first) ← holding [ov] (getMethod ov m pl)
      callWith pos f first (backTo pos (starEach [] X.env)) (backToKw pos (keywordEach [] X.env))) := by rfl) :
    PE X (.Call (.Attribute o m apos) [] [] pos) (tM C m sp ta tNil) := by
  obtain ⟨f, fd, hm, F, hb⟩ := M.ex
  refine ⟨fun pins s σ H Q I h => ?_⟩
  refine (pe_meth0 he c hm F (hr.mono hk) hb .nil pass0 ht).run pins s σ H Q I ?_
  show ta σ H _
  simp only [List.append_nil]
  exact h
theorem pe_mR {W : WX} {pl : Sem Bool} (M : Mf (CXr X.prog X.w) X.prog X.w X.K X.mg X.base k C m ps sp) (he : PE X o ta) (c : Cls X.K C) (hr : Room j X.A) (hk : k ≤ j) (tk : Takes X W) (ha : PA X (e :: es) t)
    (hst : starEach (e :: es) X.env = (false, eval e X.env) :: starEach es X.env := by rfl) (hpl : (backTo pos (starEach es X.env)).any (·.1) = false := by rfl)
    (ht : eval (.Call (.Attribute o m apos) (e :: es) [] pos) X.env = (do
      let ov ← eval o X.env
      standAt apos.atName
      let (f, first) ← holding [ov] (getMethod ov m pl)
      callWith pos f first (backTo pos (starEach (e :: es) X.env)) (backToKw pos (keywordEach [] X.env))) := by rfl) :
    PE X (.Call (.Attribute o m apos) (e :: es) [] pos) (tMw C m sp W ta t) := by
  obtain ⟨f, fd, hm, F, hb⟩ := M.ex
  refine ⟨fun pins s σ H Q I h => ?_⟩
  refine PySem.W.methodCall_KW (pl := pl) (thn (he.run pins s σ H _ I h) fun u s1 ⟨x, H1, I1, rx, a, dx, fs, ex, ea, l, q⟩ => ?_) ht
  subst ex
  obtain rfl : u = Value.ref a := rx
  refine getmeth_ok I1 ea c hm l ?_
  refine PySem.W.callWith_K (first := [.ref a]) (h₀ := X.base) I.ok.mod.kin hm.kp (thn (ha.run pos pins s1 σ H1 _ I1 q) fun us s2 ⟨vs, H2, I2, r, q2⟩ => ⟨I2.kIn, ?_⟩) hst hpl
  exact run_fnS (us := .ref a :: us) (vs := .ref a :: vs) F (hr.mono hk) hb (passAt tk σ) I2 (.cons rfl r) q2
theorem pe_mR0 {W : WX} {pl : Sem Bool} (M : Mf (CXr X.prog X.w) X.prog X.w X.K X.mg X.base k C m ps sp) (he : PE X o ta) (c : Cls X.K C) (hr : Room j X.A) (hk : k ≤ j) (tk : Takes X W)
    (ht : eval (.Call (.Attribute o m apos) [] [] pos) X.env = (do
      let ov ← eval o X.env
      standAt apos.atName
      let (f, first) ← holding [ov] (getMethod ov m pl)
      callWith pos f first (backTo pos (starEach [] X.env)) (backToKw pos (keywordEach [] X.env))) := by rfl) :
    PE X (.Call (.Attribute o m apos) [] [] pos) (tMw C m sp W ta tNil) := by
  obtain ⟨f, fd, hm, F, hb⟩ := M.ex
  refine ⟨fun pins s σ H Q I h => ?_⟩
  refine PySem.W.methodCall_KW (pl := pl) (thn (he.run pins s σ H _ I h) fun u s1 ⟨x, H1, I1, rx, a, dx, fs, ex, ea, l, q⟩ => ?_) ht
  subst ex
  obtain rfl : u = Value.ref a := rx
  refine getmeth_ok I1 ea c hm l ?_
  exact PySem.W.callWith_K0 (first := [.ref a]) I1.kIn hm.kp (run_fnS (us := [.ref a]) (vs := [.ref a]) F (hr.mono hk) hb (passAt tk σ) I1 (.cons rfl .nil) q)
theorem pe_p {f : Str} (M : Pf X.prog X.w X.K X.mg X.base k C f sp) (he : PE X e ta) (c : Cls X.K C) (hr : Room j X.A) (hk : k + 1 ≤ j) (hab : attributeBase e f X.env (eval e X.env) = eval e X.env := by rfl) : PE X (.Attribute e f pos) (tP C sp ta) := by
  obtain ⟨p, g, fd, hp, F, hb⟩ := M.ex
  exact pe_prop he c hp F (hr.mono hk) hb .nil pass0 hab
end
end WR
namespace WR
open PySem PySem.Spec PyProof.Rows L2 LamX
/-! ### properties at the head: the getter's text and facts -/
structure GetD where
  cls : Str
  prop : Str
  name : Str
  qual : Str
  params : Arguments
  body : List Stmt
  scope : Scope
def getA (K : PySem.W.Frag) (C : Addr) (m : Str) : Addr := match PySem.W.recIn K (He.ma K C m) "property" with
  | some (.ref g :: _) => g
  | _ => 0
def fnTx (K : PySem.W.Frag) (a : Addr) : He.FnW := match K.lookup a with
  | some o => (match o.data with
    | .func fd => some (fd.name, fd.qualname, fd.params, fd.body, fd.scope, fd.globals, fd.closure, fd.builtins)
    | _ => none)
  | none => none
def GetD.val (d : GetD) : He.FnW := some (d.name, d.qual, d.params, .stmts d.body, d.scope, mainGlobals, [], builtinsNs)
def GetD.at_ (K : PySem.W.Frag) (d : GetD) : Addr := getA K (He.ga K d.cls) d.prop
def fnFine (K : PySem.W.Frag) (a : Addr) (q : Str) : Bool := PySem.W.keepIn K (.ref a) && (match K.lookup a with
  | some o => (match o.data with
    | .func fd => PySem.W.codeIn K fd.code q && (He.dflB K fd.defaults [] && He.kwdB K fd.kwdefaults [])
    | _ => false)
  | none => false)
def GetD.ok (K : PySem.W.Frag) (d : GetD) : Bool :=
  (He.eqO (PySem.W.findIn K (.ref (He.ga K d.cls)) d.prop) (some (some (.ref (He.ma K (He.ga K d.cls) d.prop)))) && (He.eqO (PySem.W.specialIn K (.ref (He.ma K (He.ga K d.cls) d.prop)) "__get__") (some (some (.builtin "property.__get__"))) &&
    decide (PySem.W.takesIn K (.ref (He.ma K (He.ga K d.cls) d.prop)) = some true))) && ((match PySem.W.recIn K (He.ma K (He.ga K d.cls) d.prop) "property" with
    | some (.ref _ :: _) => true
    | _ => false) && fnFine K (d.at_ K) d.qual)
theorem fn_told {K : PySem.W.Frag} {a : Addr} {n q : Str} {ps : Arguments} {b : List Stmt} {sc : Scope} (e : fnTx K a = some (n, q, ps, .stmts b, sc, mainGlobals, [], builtinsNs)) (c : fnFine K a q = true) : ∃ fd, FunD K n q ps b sc [] [] a fd := by
  obtain ⟨kp, c2⟩ := He.ba c
  unfold fnTx at e
  cases lk : K.lookup a with
  | none => rw [lk] at e; cases e
  | some o =>
    rw [lk] at e c2
    obtain ⟨oc, od, dt, sl⟩ := o
    cases dt with
    | func fd =>
      obtain ⟨n1, n2, n3, n4, n5, n6, n7, n8, n9, n10, n11, n12, n13, n14, n15⟩ := fd
      simp only [Option.some.injEq, Prod.mk.injEq] at e
      obtain ⟨rfl, rfl, rfl, rfl, rfl, rfl, rfl, rfl⟩ := e
      obtain ⟨k1, k2⟩ := He.ba c2
      obtain ⟨k3, k4⟩ := He.ba k2
      exact ⟨_, ⟨oc, od, n8, n9, n10, n11, n12, n13, n14, sl, rfl, lk, k1, He.dflB_ok k3, He.kwdB_ok k4⟩, kp⟩
    | _ => cases e
theorem GetD.of {K : PySem.W.Frag} {d : GetD} (e : fnTx K (d.at_ K) = d.val) (c : d.ok K = true) : PropOf K (He.ga K d.cls) d.prop (He.ma K (He.ga K d.cls) d.prop) (d.at_ K) ∧ ∃ fd, FunD K d.name d.qual d.params d.body d.scope [] [] (d.at_ K) fd := by
  obtain ⟨c1, c2⟩ := He.ba c
  obtain ⟨c3, c4⟩ := He.ba c1
  obtain ⟨c5, c6⟩ := He.ba c4
  obtain ⟨c7, c8⟩ := He.ba c2
  refine ⟨⟨He.eqO_ok c3, He.eqO_ok c5, of_decide_eq_true c6, ?_⟩, fn_told e c8⟩
  unfold GetD.at_ getA
  split at c7
  · rename_i g rest h
    rw [h]
    exact ⟨rest, rfl⟩
  · cases c7
abbrev AlZ : Type := He.AlX × (Bool × List He.FnW)
def obsZ (n : Nat) (fa : List He.Fa) (fn : List He.DefD) (ts : List He.Tab) (tf : List He.Defn) (gs : List GetD) (ex : PySem.W.Frag → Bool) (g : Addr → Option Obj) : AlZ :=
  (He.obsX n fa fn ts tf ex g, gs.all (fun d => d.ok (He.frT g (He.asD g n))), gs.map fun d => fnTx (He.frT g (He.asD g n)) (d.at_ (He.frT g (He.asD g n))))
def valZ (fn : List He.DefD) (ts : List He.Tab) (gs : List GetD) (w : World) : AlZ := (He.valX fn ts w, true, gs.map GetD.val)
structure SaysZ (fa : List He.Fa) (fn : List He.DefD) (ts : List He.Tab) (tf : List He.Defn) (gs : List GetD) (ex : PySem.W.Frag → Bool) (w : World) (h : Heap) (K : PySem.W.Frag) : Prop where
  x : He.SaysX fa fn ts tf ex w h K
  g : ∀ d ∈ gs, d.ok K = true
  gt : gs.map (fun d => fnTx K (d.at_ K)) = gs.map GetD.val
theorem SaysZ.get {fa : List He.Fa} {fn : List He.DefD} {ts : List He.Tab} {tf : List He.Defn} {gs : List GetD} {ex : PySem.W.Frag → Bool} {w : World} {h : Heap} {K : PySem.W.Frag} (c : SaysZ fa fn ts tf gs ex w h K) (i : Nat) {d : GetD} (e : gs[i]? = some d) :
    PropOf K (He.ga K d.cls) d.prop (He.ma K (He.ga K d.cls) d.prop) (d.at_ K) ∧ ∃ fd, FunD K d.name d.qual d.params d.body d.scope [] [] (d.at_ K) fd := by
  refine GetD.of ?_ (c.g d (List.mem_of_getElem? e))
  have z := congrArg (fun l : List He.FnW => l[i]?) c.gt
  simp only [List.getElem?_map, e, Option.map_some, Option.some.injEq] at z
  exact z
theorem saysZ_of {n : Nat} {fa : List He.Fa} {fn : List He.DefD} {ts : List He.Tab} {tf : List He.Defn} {gs : List GetD} {ex : PySem.W.Frag → Bool} {w : World} {h : Heap} (e : obsZ n fa fn ts tf gs ex h.get? = valZ fn ts gs w) : SaysZ fa fn ts tf gs ex w h (He.frT h.get? (He.asD h.get? n)) :=
  ⟨He.saysX_of (congrArg (fun z : AlZ => z.1) e), List.all_eq_true.mp (congrArg (fun z : AlZ => z.2.1) e), congrArg (fun z : AlZ => z.2.2) e⟩
def hookZ (n : Nat) (fa : List He.Fa) (fn : List He.DefD) (ts : List He.Tab) (tf : List He.Defn) (gs : List GetD) (ex : PySem.W.Frag → Bool) : PySem.W.Hook where
  α := AlZ
  obs := fun s => obsZ n fa fn ts tf gs ex s.heap.get?
  val := fun w => valZ fn ts gs w
  says := fun w h => ∃ K : PySem.W.Frag, K.In h ∧ SaysZ fa fn ts tf gs ex w h K
  of := fun _ _ e => ⟨_, He.frT_in, saysZ_of e⟩
  keeps := fun _ _ _ ⟨K, hK, c⟩ k => ⟨K, PySem.W.Frag.In.keeps hK k, ⟨⟨c.x.t, c.x.more, c.x.hd, c.x.out, fun p hp => k _ _ (c.x.empty p hp)⟩, c.g, c.gt⟩⟩
theorem obsZ_eq {n : Nat} {fa : List He.Fa} {fn : List He.DefD} {ts : List He.Tab} {tf : List He.Defn} {gs : List GetD} {ex : PySem.W.Frag → Bool} {g : Addr → Option Obj} {s : Shared} (h : ∀ a, g a = s.heap.get? a) : obsZ n fa fn ts tf gs ex g = (hookZ n fa fn ts tf gs ex).obs s := by
  have e : g = s.heap.get? := funext h
  rw [e] <;> rfl
end WR
namespace WR
open PySem PySem.Spec PyProof.Rows L2 LamX
/-! ### an own class is called -/
structure Kf (P : Program) (w : World) (K : PySem.W.Frag) (mg : Str → Option Value) (base : Heap) (k : Nat) (x : Str) (C : Addr) (ps : List Str) (sp : Sp) : Prop where
  ex : ∃ (f : Addr) (fd : FuncData), Mk K C f ∧ FnOk P w K mg base CX0 k f fd ps sp ∧ Binds K fd ps [] ∧ mg x = some (.ref C)
/-- its __init__ has one default, which is never asked for -/
theorem kf_of1 {P : Program} {w : World} {K : PySem.W.Frag} {mg : Str → Option Value} {base : Heap} {x qual : Str} {C : Addr} {st : Stmt} {dv : V} {f : Addr} {fd : FuncData} {N ps : List Str} {k : Nat} {sp : Sp}
    (F : FunD K "__init__" qual (defArgs st) (defBody st) (defScope st) [dv] [] f fd) (hm : Mk K C f) (gx : mg x = some (.ref C)) (S : FnScope N ps (defScope st)) (len : ∀ vs H Q E, sp vs H Q E → vs.length = ps.length)
    (b1 : ∀ (T : Addr) (kV doc pm : Value) (an : Option Addr) (cdv ct : Value) (us its : List Value), us.length = ps.length → its.length = 1 →
      ∃ k, bindArgs (PySem.W.fnOf "__init__" qual (defArgs st) (defBody st) (defScope st) (.ref T) kV doc pm an cdv ct) ⟨us, []⟩ = seqItems? (.ref T) >>= k ∧ k (some its.toArray) = pure (ps.zip (us ++ its.drop 1)))
    (hb : ∀ (cdv : Value) (A : Around) (outer : List Env) (s : Shared) (H : Hp) (vs : List V) (Q : VK) (E : XK), Room k (A.deeper (envOfC qual (defScope st) s.heap.objs.size f cdv)) → sp vs H Q E →
      ∃ t, PSs (cxOf CX0 P w K mg base N qual (defScope st) f cdv A outer s H E).nox (defBody st) t ∧ t { nx := fun _ H' => Q .non H', rt := Q } (start N vs) H) : Kf P w K mg base (k + 1) x C ps sp := by
  have ok : FnOk P w K mg base CX0 (k + 1) f fd ps sp := F.ok S len fun cdv A outer s H vs Q E hr h => by
    obtain ⟨t, h1, h2⟩ := hb cdv A outer s H vs Q E hr h
    exact ⟨t, h1.nox, h2⟩
  obtain ⟨ds, r, b⟩ := F.binds1 (ps := ps) ps.length 1 (by intro z; cases z) (by show ps.length + (1 - 1) = ps.length; omega) fun T kV doc pm an cdv ct us its h1 h2 => b1 T kV doc pm an cdv ct us its h1 h2
  cases r
  exact ⟨f, fd, hm, ok, b, gx⟩
def tN (C : Addr) (sp : Sp) (t : TA) : TE := fun σ H Q => t σ H fun vs H1 => ∀ x dx, H1 x = none → H1 dx = none → dx ≠ x → sp (.ref x :: vs) (upd (upd H1 dx (.own x)) x (.ins C dx [])) (fun v H2 => v = .non ∧ Q (.ref x) H2) E0
section
variable {X : Cx} {C : Addr} {x : Str} {ps : List Str} {k j : Nat} {sp : Sp} {p pos : Pos} {e : Expr} {es : List Expr} {t : TA}
theorem pe_new (M : Kf X.prog X.w X.K X.mg X.base k x C ps sp) (hr : Room j X.A) (hk : k + 1 ≤ j) (hg : Gl X x) (ha : PA X (e :: es) t) (hdb : (x == ("__debug__" : Str)) = false := by decide)
    (he : starEach (e :: es) X.env = (false, eval e X.env) :: starEach es X.env := by rfl) (hpl : (backTo pos (starEach es X.env)).any (·.1) = false := by rfl) :
    PE X (.Call (.Name x p) (e :: es) [] pos) (tN C sp t) := by
  obtain ⟨f, fd, hm, F, hb, gx⟩ := M.ex
  refine ⟨fun pins s σ H Q I h => ?_⟩
  refine (pe_make hm F (hr.mono hk) hg gx hb .nil pass0 ha hdb he hpl).run pins s σ H Q I ?_
  show t σ H _
  simp only [List.append_nil]
  exact h
/-- xs[i] of o[i] op= e -/
def rGetL (K : PySem.W.Frag) : V → V → Hp → VK → Prop := fun o i H Q => ∃ p xs k v, o = .ref p ∧ i = .int k ∧ 0 ≤ k ∧ SqL K H p xs ∧ atI xs k = some v ∧ Q v H
theorem get_list : PGet X (rGetL X.K) := by
  intro pins s σ H x y v u Q I rx ry h
  obtain ⟨p, xs, i, z, rfl, rfl, h0, hq, he, q⟩ := h
  cases rx
  obtain ⟨t, rfl⟩ := ry
  obtain ⟨its, r, pl, hz⟩ := I.list hq
  obtain ⟨j, h1, h2, h3, h4, h5⟩ := atI_get he
  obtain ⟨w, ew, rw'⟩ := r.get h2
  have hl := r.length
  have hn := line63
  have hj : i.toNat = j := by
    rw [seqIndex_of h0 h5] at h1
    exact Option.some.inj h1
  exact wpAny_getItem_list pl.isList h0 (by omega) (by rw [hj]; simpa using ew) ⟨z, H, I, rw', q⟩
end
end WR
namespace WR
open PySem PySem.Spec PyProof.Rows L2 LamX
/-! ### max of two texts -/
def sltB (x y : Str) : Bool := decide (x.cps.toList < y.cps.toList)
def txV : Value → Str
  | .str x _ => x
  | _ => Str.empty
theorem cmpS_gt {prog : Program} {w : World} {A : Around} (vs : Array Value) (hn : ∀ v ∈ vs, ∃ x t, v = .str x t) : CmpOf prog w A .Gt (fun i v => vs[i]? = some v) (fun i j => sltB (txV (vs.getD j .none)) (txV (vs.getD i .none))) := fun i j vi vj s Q E hi hj h => by
  have e1 : vs.getD i .none = vi := by simp [Array.getD_eq_getD_getElem?, hi]
  have e2 : vs.getD j .none = vj := by simp [Array.getD_eq_getD_getElem?, hj]
  simp only [e1, e2] at h
  obtain ⟨x, t, rfl⟩ := hn _ (Array.mem_of_getElem? hi)
  obtain ⟨y, u, rfl⟩ := hn _ (Array.mem_of_getElem? hj)
  exact PySem.P.gt_str h
theorem max_two_txt {prog : Program} {w : World} {A : Around} {E : Value → Shared → Prop} {s : Shared} {Q : Value → Shared → Prop} {x y : Str} {t u : Tok} (hh : A.handled = none)
    (h : ∀ h' tk, (∀ c o, s.heap.get? c = some o → h'.get? c = some o) → Q (if sltB x y then .str y u else .str x t) { s with heap := h', toks := tk }) : wpAny (model prog w) A (call (.builtin "max") [.str x t, .str y u]) Q E s := by
  have hT : (s.heap.push { cls := .type "tuple", data := .seq #[.str x t, .str y u] }).IsTuple s.heap.objs.size #[.str x t, .str y u] := ⟨_, Heap.get?_push_size _ rfl, rfl, 0, rfl⟩
  have hsz : (s.heap.push { cls := .type "tuple", data := .seq #[.str x t, .str y u] }).objs.size = s.heap.objs.size + 1 := Heap.size_push ..
  have hstr : ∀ v ∈ #[Value.str x t, Value.str y u], ∃ x t, v = .str x t := fun v hv => by
    rcases List.mem_cons.mp (Array.mem_toList_iff.mpr hv) with e | hv
    · exact ⟨_, _, e⟩
    · rcases List.mem_cons.mp hv with e | hv
      · exact ⟨_, _, e⟩
      · cases hv
  refine call_max_two (wpAny_pyIter_tuple hT ?_)
  refine ⟨_, [_, s.heap.objs.size], [_], _, _, _, _, rfl, Walks.tuple (A := A.in1) hh _ s.heap.objs.size (by rw [hsz]; exact Nat.ne_of_lt (Nat.lt_succ_self _)) #[.str x t, .str y u], ⟨⟨_, Heap.get?_push_size _ rfl, rfl, rfl⟩, hT.push _⟩, fun c hc => ?_, by simp, cmpS_gt #[.str x t, .str y u] hstr, fun v h' tk hP hk => ?_⟩
  · show c < ((s.heap.push _).push _).objs.size
    rw [Heap.size_push, hsz]
    rcases List.mem_cons.mp hc with rfl | hc
    · rw [hsz]; exact Nat.lt_succ_self _
    · rcases List.mem_cons.mp hc with rfl | hc
      · exact Nat.lt_succ_of_lt (Nat.lt_succ_self _)
      · cases hc
  · have hold : ∀ c o, s.heap.get? c = some o → h'.get? c = some o := fun c o e => hk c o (fun hm => by
      rcases List.mem_cons.mp hm with e1 | hm
      · have := Heap.lt_size e; rw [e1, hsz] at this; exact Nat.lt_irrefl _ (Nat.lt_of_succ_lt this)
      · cases hm) (Heap.get?_push_of_some _ (Heap.get?_push_of_some _ e))
    have hq := h h' tk hold
    have hv : v = if sltB x y then .str y u else .str x t := by
      cases hc : sltB x y <;> simp [argBest, txV, hc] at hP <;> simp [hP]
    rw [hv]
    exact hq
theorem call_maxS2 {X : Cx} (hc : X.calm = true) : CallR X (.builtin "max") (fun xs H Q => ∃ x y : Str, xs = [.str x, .str y] ∧ Q (.str (if sltB x y then y else x)) H) := by
  intro pins s σ H xs us Q I r h
  obtain ⟨x, y, rfl, q⟩ := h
  obtain ⟨u, v, rfl, ⟨t, rfl⟩, ⟨t', rfl⟩⟩ := vals2 r
  refine max_two_txt (I.ok.hd hc) fun h' tk k => ⟨_, H, I.kept k, ?_, q⟩
  cases sltB x y
  · exact ⟨_, rfl⟩
  · exact ⟨_, rfl⟩
end WR
namespace WR
open PySem PySem.Spec PyProof.Rows L2 LamX
theorem walk_zipS2 {x y : Str} (h : x.cps.size ≤ y.cps.size) : Walk (ItzS x y) x.cps.size (fun _ => True) (fun i H v H' => ∃ T c d, v = .ref T ∧ H T = none ∧ H' = upd H T (.tup [.str ⟨#[c]⟩, .str ⟨#[d]⟩]) ∧ x.cps[i]? = some c ∧ y.cps[i]? = some d) where
  goes := fun i H hi _ => ⟨hi, by omega⟩
  stops := fun H _ => rfl
  yields := fun i H v H' _ _ q => q
theorem flat_get (p : List Nat) (hp : 1 ≤ p.length) : ∀ (n i : Nat), i < n * p.length → (List.replicate n p).flatten[i]? = p[i % p.length]?
  | 0, i, h => by omega
  | n + 1, i, h => by
    rw [List.replicate_succ, List.flatten_cons]
    by_cases q : i < p.length
    · rw [List.getElem?_append_left q, Nat.mod_eq_of_lt q]
    · rw [List.getElem?_append_right (by omega), Nat.mod_eq_sub_mod (by omega)]
      exact flat_get p hp n _ (by rw [Nat.succ_mul] at h; omega)
theorem flat_len (p : List Nat) (n : Nat) : (List.replicate n p).flatten.length = n * p.length := by
  induction n with
  | zero => simp
  | succ n ih => rw [List.replicate_succ, List.flatten_cons, List.length_append, ih, Nat.succ_mul]; omega
theorem sltB_one (c d : Nat) : sltB ⟨#[c]⟩ ⟨#[d]⟩ = decide (c < d) := by
  unfold sltB
  rw [Bool.eq_iff_iff, decide_eq_true_iff, decide_eq_true_iff]
  show [c] < [d] ↔ _
  rw [List.cons_lt_cons_iff]; simp
end WR
namespace WR
open PySem PySem.Spec PyProof.Rows L2 LamX
open PySem.AutoSeq1 (wpAny_loadPart')
/-! ### enumerate(tuple) -/
/-- the tuple at a as it stands at each turn, its items with their numbers in new pairs -/
def IteT (K : PySem.W.Frag) (a : Addr) : It :=
  ⟨fun i H => ∃ (xs : List V) (x : V), SqT K H a xs ∧ xs[i]? = some x, fun i H v H' => ∃ T x, v = .ref T ∧ H T = none ∧ H' = upd H T (.tup [.int (i : Nat), x]) ∧ ∀ xs, SqT K H a xs → xs[i]? = some x, fun i H => ∃ xs : List V, SqT K H a xs ∧ xs.length = i⟩
theorem turn_enumT {P : Program} {w : World} {K : PySem.W.Frag} {elts : List Expr} {kk : Nat} {tpos : Pos} (a e it : Addr) (hne : e ≠ it) (hea : e ≠ a) (hai : a ≠ it) :
    Turn P w K (.Tuple elts kk tpos) (IteT K a) [e, it] e (fun i h => (∃ old, IsEnum h e it ((i : Nat) : Int) old) ∧ h.IsTupleIter it a i) where
  mem := by simp
  obj := fun i h st b hb => by
    obtain ⟨⟨old, he⟩, ⟨o, ho, hc, hd⟩⟩ := st
    have hb2 : b = e ∨ b = it := by simpa using hb
    rcases hb2 with z | z
    · rw [z]; exact ⟨_, he, fun v q => nomatch q⟩
    · rw [z]; exact ⟨o, ho, fun v q => by rw [hd] at q; cases q⟩
  keep := fun i h h' st kp => by
    obtain ⟨⟨old, he⟩, hi⟩ := st
    exact ⟨⟨old, kp e (by simp) _ he⟩, hi.at fun o q => kp it (by simp) o q⟩
  item := by
    intro X hP hw hK hc i pins s σ H E I hf st hg
    subst hP hw hK
    obtain ⟨⟨old, he⟩, hit⟩ := st
    obtain ⟨xs, x, hq, hx⟩ := hg
    obtain ⟨its, rv, p, hz⟩ := I.tuple hq
    obtain ⟨u, hu, ru⟩ := rv.get hx
    have hh : X.A.in1.handled = none := I.ok.hd hc
    have D := Draws.tuple (prog := X.prog) (w := X.w) hh it a hai its.toArray
    have hel : e < s.heap.objs.size := Heap.lt_size he
    have hil : it < s.heap.objs.size := let ⟨_, q, _⟩ := hit; Heap.lt_size q
    have hlt : i < its.toArray.size := by
      rw [List.size_toArray]
      exact (List.getElem?_eq_some_iff.mp hu).1
    refine wpAny_pyNext_enum_itemC D he ⟨hit, show s.heap.IsTuple a its.toArray from p⟩ hlt hne (by simp [hne, hea]) fun y h1 tk hP ho st1 hT hsz hk => ?_
    have ey : y = u := by
      rw [List.getElem?_toArray, hu] at hP
      exact (Option.some.inj hP).symm
    subst ey
    refine ⟨_, rfl, wpAny_letOwnedTupleGo_enum (s := { s with heap := h1, toks := tk + 1 }) ho fun h2 he2 sb => ?_⟩
    have hT2 : h2.get? s.heap.objs.size = some { cls := .type "tuple", data := .seq #[.int (i : Nat) tk, y] } := (sb.2 _ (Nat.ne_of_gt hel)).trans hT
    have ob : ObjOk X.prog X.w (upd H s.heap.objs.size (.tup [.int (i : Nat), x])) h2 s.heap.objs.size (.tup [.int (i : Nat), x]) :=
      ⟨by show 2 ≤ sizeLine; decide, [.int (i : Nat) tk, y], .cons ⟨_, rfl⟩ (.cons ru .nil), ⟨_, hT2, rfl, _, rfl⟩⟩
    have J : Inv X pins σ (upd H s.heap.objs.size (.tup [.int (i : Nat), x])) { s with heap := h2, toks := tk + 1 } :=
      I.turnedNew (ch := [e, it]) (fun b o hb q => (sb.2 b fun z => hb (by simp [z])).trans (hk b o (fun z => hb (by simp [z])) (fun z => hb (by simp [z])) q)) hf (Nat.le_refl _) ob
    refine ⟨.ref s.heap.objs.size, _, J, rfl, ⟨_, x, rfl, I.hok.fresh (Nat.le_refl _), rfl, fun ys hy => by rw [I.tuple_inj hy hq]; exact hx⟩, ⟨⟨y, ?_⟩, ?_⟩, fun b hb => ?_⟩
    · have e1 : ((i + 1 : Nat) : Int) = (i : Int) + 1 := by omega
      rw [e1]
      exact he2
    · exact st1.1.at fun o q => (sb.2 it (Ne.symm hne)).trans q
    · have hb2 : b < s.heap.objs.size := by
        have hb3 : b = e ∨ b = it := by simpa using hb
        rcases hb3 with z | z
        · rw [z]; exact hel
        · rw [z]; exact hil
      rw [upd_ne (Nat.ne_of_lt hb2)]
      exact (hf b hb).1
  done := by
    intro X hP hw hK hc i pins s σ H E I hf st hg
    subst hP hw hK
    obtain ⟨⟨old, he⟩, hit⟩ := st
    obtain ⟨xs, hq, hx⟩ := hg
    obtain ⟨its, rv, p, hz⟩ := I.tuple hq
    have hh : X.A.in1.handled = none := I.ok.hd hc
    obtain ⟨f0, f1, f2, f3, f4, f5⟩ := hf it (by simp)
    have hl := rv.length
    have hsz : i = its.toArray.size := by rw [List.size_toArray, ← hl]; exact hx.symm
    have D := Draws.tuple (prog := X.prog) (w := X.w) hh it a hai its.toArray
    subst hsz
    exact wpAny_pyNext_enum_endD D he ⟨hit, show s.heap.IsTuple a its.toArray from p⟩ fun h1 eb => ⟨rfl, I.turned (t' := s.toks) (fun b o hb q => eb b o hb q) f0 f1 f3 f4 f5⟩
  self := fun A i s Q E st h => let ⟨⟨_, he⟩, _⟩ := st; wpAny_pyIter_enum he h
theorem meets_enumT (l : Addr) (items : Array Value) :
    Meets (Builtin.«enumerate.__new__» ⟨[.type "enumerate", .ref l], []⟩) (fun _ R s => s.heap.IsTuple l items ∧
      R (.ok (.ret (.ref (s.heap.push { cls := .type "tuple_iterator", data := .fields #[.ref l, .int 0 0] }).objs.size)))
        { s with heap := (s.heap.push { cls := .type "tuple_iterator", data := .fields #[.ref l, .int 0 0] }).push { cls := .type "enumerate", data := .fields #[.none, .bool false, .ref s.heap.objs.size, rawInt 0, .none, .none] } }) :=
  .of_wp fun prog w A R s h => by
    obtain ⟨hp, g, d, tk, os⟩ := s
    obtain ⟨hl, h⟩ := h
    have hsub := sub_enumerate
    obtain ⟨⟨oc, od, dt, sl⟩, hg, hc, n, hd⟩ := id hl
    replace hc : oc = .type "tuple" := hc
    replace hd : dt = .seq items n := hd
    subst hc hd
    wp_walk using wpAny_loadPart' hg
    refine wpAny_stack_any fun st => wpAny_pure ?_
    split
    · rename_i c _ _ _ _ _
      cases (c == Value.type "enumerate")
      · wp_walk using wpAny_loadPart' hg, wpAny_pyIter_tuple hl
        exact ⟨_, rfl, h⟩
      · wp_walk using wpAny_loadPart' hg, wpAny_pyIter_tuple hl
        exact ⟨_, rfl, h⟩
    · wp_walk using wpAny_loadPart' hg, wpAny_pyIter_tuple hl
      exact ⟨_, rfl, h⟩
theorem call_enumerate_tup {prog : Program} {w : World} {A : Around} {E : Value → Shared → Prop} {s : Shared} {l : Addr} {items : Array Value} {Q : Value → Shared → Prop} (hL : s.heap.IsTuple l items)
    (h : ∀ h', IsEnum h' (s.heap.objs.size + 1) s.heap.objs.size 0 .none → h'.IsTupleIter s.heap.objs.size l 0 → (∀ b o, s.heap.get? b = some o → h'.get? b = some o) → Q (.ref (s.heap.objs.size + 1)) { s with heap := h' }) :
    wpAny (model prog w) A (call (.type "enumerate") [.ref l]) Q E s := by
  refine callType_new F.called_enumerate (by decide) (F.typeCall_enumerate_1 _) (F.newCall_enumerate_1 _) (fun obj => F.args_object_init_2 obj _) F.entry_enumerate_new (meets_enumT l items) ⟨hL, ?_⟩
  have hz : (s.heap.push { cls := .type "tuple_iterator", data := .fields #[.ref l, .int 0 0] }).objs.size = s.heap.objs.size + 1 := Heap.size_push ..
  show _ ∧ _
  rw [hz]
  have he : IsEnum ((s.heap.push { cls := .type "tuple_iterator", data := .fields #[.ref l, .int 0 0] }).push { cls := .type "enumerate", data := .fields #[.none, .bool false, .ref s.heap.objs.size, rawInt 0, .none, .none] }) (s.heap.objs.size + 1) s.heap.objs.size 0 .none := by
    have q := Heap.get?_push_size (s.heap.push { cls := .type "tuple_iterator", data := .fields #[.ref l, .int 0 0] }) (o := { cls := .type "enumerate", data := .fields #[.none, .bool false, .ref s.heap.objs.size, rawInt 0, .none, .none] }) rfl
    rw [hz] at q
    exact q
  exact ⟨⟨_, he, rfl⟩, h _ he ⟨_, Heap.get?_push_of_some _ (Heap.get?_push_size _ rfl), rfl, rfl⟩ fun b o x => Heap.get?_push_of_some _ (Heap.get?_push_of_some _ x)⟩
def iEnumT (K : PySem.W.Frag) (ta : TA) : TI := fun σ H R => ta σ H fun vs H1 => ∃ a xs, vs = [.ref a] ∧ SqT K H1 a xs ∧ R (IteT K a) H1
theorem pi_enumT {X : Cx} {e : Expr} {ta : TA} {p pos tpos : Pos} {elts : List Expr} {kk : Nat} (hg : Gl X "enumerate") (hm : X.mg "enumerate" = none) (ha : PA X [e] ta) (hs : starEach [e] X.env = [(false, eval e X.env)] := by rfl) :
    PI X (.Tuple elts kk tpos) (.Call (.Name "enumerate" p) [e] [] pos) (iEnumT X.K ta) := by
  refine ⟨fun pins s σ H R I h => Call_ (ld_blt I hg hm boot_enumerate (PyProof.Rows.callWith_type1 (thn (ha.run pos pins s σ H _ I h) fun us s1 ⟨vs, H1, I1, r1, a, xs, ex, hq, q⟩ => ?_) hs rfl))⟩
  subst ex
  cases r1 with
  | cons r rr =>
    cases rr
    cases r
    obtain ⟨its, rv, p', hz⟩ := I1.tuple hq
    have hT : s1.heap.IsTuple a its.toArray := p'
    have hal : a < s1.heap.objs.size := let ⟨_, z, _⟩ := hT; Heap.lt_size z
    refine call_enumerate_tup hT fun h' he hit hk => wpAny_pyIter_enum he ?_
    have I2 : Inv X pins σ H1 { s1 with heap := h' } := I1.kept (t' := s1.toks) hk
    refine ⟨s1.heap.objs.size + 1, [s1.heap.objs.size + 1, s1.heap.objs.size], _, _, H1, rfl, I2, turn_enumT a (s1.heap.objs.size + 1) s1.heap.objs.size (Nat.succ_ne_self _) (Nat.ne_of_gt (Nat.lt_succ_of_lt hal)) (Nat.ne_of_lt hal), ⟨⟨.none, he⟩, hit⟩, fun b hb => ?_, q⟩
    have hb2 : b = s1.heap.objs.size + 1 ∨ b = s1.heap.objs.size := by simpa using hb
    have hle : s1.heap.objs.size ≤ b := by
      rcases hb2 with z | z
      · rw [z]; exact Nat.le_succ _
      · rw [z]; exact Nat.le_refl _
    exact I1.fpOk hle (I1.hok.fresh hle)
theorem walk_enumT {K : PySem.W.Frag} {a : Addr} {xs : List V} : Walk (IteT K a) xs.length (fun H => SqT K H a xs) (fun i H v H' => ∃ T x, v = .ref T ∧ H T = none ∧ H' = upd H T (.tup [.int (i : Nat), x]) ∧ xs[i]? = some x) where
  goes := fun i H hi q => ⟨xs, xs[i], q, by simp [hi]⟩
  stops := fun H q => ⟨xs, q, rfl⟩
  yields := fun i H v H' hi q y => by
    obtain ⟨T, x, y1, y2, y3, y4⟩ := y
    exact ⟨T, x, y1, y2, y3, y4 xs q⟩
end WR
namespace WR
open PySem PySem.Spec PyProof.Rows L2 LamX
/-- isinstance of an exception that was caught, or of what is none -/
theorem call_isXi {X : Cx} : CallR X (.builtin "isinstance") (fun xs H Q => rIsX X.K xs H Q ∨ rIsi X.K xs H Q) := by
  intro pins s σ H xs us Q I r h
  rcases h with h | h
  · exact call_isX pins s σ H xs us Q I r h
  · exact call_isi pins s σ H xs us Q I r h
end WR
namespace WR
open PySem PySem.Spec PyProof.Rows L2 LamX
/-! ### xs[a:b] = ys -/
theorem part_int {v : Value} {i : Int} (h : IsPart v (some i)) : RelV (.int i) v := by
  cases h with
  | int => exact ⟨_, rfl⟩
def gSubSl (to : TE) (tl tu : TO) : TG := fun v σ H Q => to σ H fun x H1 => tl σ H1 fun lo H2 => tu σ H2 fun hi H3 => ∃ (l b : Addr) (xs ys : List V) (i j : Int), x = .ref l ∧ v = .ref b ∧ lo = some i ∧ hi = some j ∧
  H3 l = some (.lst xs) ∧ H3 b = some (.lst ys) ∧ l ≠ b ∧ 0 ≤ i ∧ i ≤ j ∧ j ≤ xs.length ∧ xs.length + ys.length ≤ sizeLine ∧ Q σ (upd H3 l (.lst (xs.take i.toNat ++ ys ++ xs.drop j.toNat)))
theorem pg_subSl {X : Cx} {o : Expr} {to : TE} {lo hi : Option Expr} {tl tu : TO} {p2 pos : Pos} (ho : PE X o to) (hl : PO X lo tl) (hu : PO X hi tu)
    (ha : ∀ v, assign (.Subscript o (.Slice lo hi none p2) pos) X.env v = (do
      let ov ← holding [v] (eval o X.env)
      let iv ← holding [v, ov] (eval (.Slice lo hi none p2) X.env)
      standAt pos
      holding [v, ov, iv] (setItem ov iv v)
      release [iv, v, ov] []) := by intro _; rfl) : PG X (.Subscript o (.Slice lo hi none p2) pos) (gSubSl to tl tu) := by
  refine ⟨fun pins s σ H v u Q I r h => ?_⟩
  rw [ha]
  refine wpAny_bind (wpAny_holding (thn (ho.run pins s σ H _ I h) fun ov s1 ⟨x, H1, I1, r1, q1⟩ => ?_))
  refine wpAny_bind (wpAny_holding (wpAny_Slice (thn (hl.run pins s1 σ H1 _ I1 q1) fun vl s2 ⟨lo', H2, I2, pl, q2⟩ => thn (hu.run pins s2 σ H2 _ I2 q2) fun vu s3 ⟨hi', H3, I3, pu, q3⟩ => ?_)))
  rw [evalPart_none]
  refine wpAny_pure ?_
  obtain ⟨l, b, xs, ys, i, j, rfl, rfl, rfl, rfl, e1, e2, ne, h0, h1, h2, hz, q⟩ := q3
  cases r1
  cases r
  have I4 : Inv X pins σ H3 { s3 with heap := s3.heap.push { cls := .type "slice", data := .fields #[vl, vu, .none] } } := I3.kept (t' := s3.toks) fun b ob q => Heap.get?_push_of_some _ q
  refine wpAny_bind (wpAny_standAt (wpAny_bind (wpAny_holding (set_slice I4 e1 e2 ne (Heap.IsSliceOf.new ..) (part_int pl) (part_int pu) h0 h1 h2 hz fun s' I5 => wpAny_release ⟨σ, _, I5, q⟩))))
end WR
namespace WR
open PySem PySem.Spec PyProof.Rows L2 LamX
/-- x is True, x a bool or a text -/
theorem op_is_blS {X : Cx} : OpR X (compareOp .Is) (fun x y H Q => ∃ b : Bool, y = .bl b ∧ ((∃ a, x = .bl a ∧ Q (.bl (decide (a = b))) H) ∨ ∃ z, x = .str z ∧ Q (.bl false) H)) := by
  intro pins s σ H x y v u Q I rx ry h
  obtain ⟨b, rfl, h⟩ := h
  rcases h with ⟨a, rfl, q⟩ | ⟨z, rfl, q⟩
  · exact op_is_bl pins s σ H _ _ v u Q I rx ry ⟨a, b, rfl, rfl, q⟩
  · obtain ⟨t, rfl⟩ := rx
    cases ry
    exact wpAny_is_other rfl (fun e => nomatch e) ⟨.bl false, H, I, rfl, q⟩
end WR
namespace WR
open PySem PySem.Spec PyProof.Rows L2
section
variable {X : Cx}
/-! ### x not in a tuple of data -/
def rNotInTup (K : PySem.W.Frag) : R2 := fun x y H Q => ∃ d ds, Dp K H x d ∧ Dp K H y (.tuple ds) ∧ PyData.canLayAll0 ds = true ∧ d.canLay0 = true ∧ PyData.depthAll ds ≤ 40 ∧ Q (.bl (!(ds.any fun z => PyData.eqv z d))) H
theorem op_notInTup (hu : X.A.units + 64 < cLine) : OpR X (compareOp .NotIn) (rNotInTup X.K) := by
  intro pins s σ H x y v u Q I rx ry h
  obtain ⟨d, ds, hd, he, c1, c2, dep, q⟩ := h
  obtain ⟨as, r1⟩ := Dp.reads I d x v hd rx
  obtain ⟨bs, r2⟩ := Dp.reads I (.tuple ds) y u he ry
  exact SeqAt.notIn_tuple_reads r2 r1 c1 c2 (by omega) ⟨.bl _, H, I, rfl, q⟩
end
end WR
namespace WR
open PySem PySem.Spec PyProof.Rows L2
section
variable {X : Cx} {pins : List (Addr × Obj)} {σ : L2.St} {H : Hp} {s : Shared} {a b : Addr} {kvs more : List (Key × V)} {A : Around} {E : Value → Shared → Prop}
/-! ### d.update(e), e a dict too -/
theorem d_upd {Q : Value → Shared → Prop} (I : Inv X pins σ H s) (e : H a = some (.dK kvs)) (e2 : H b = some (.dK more)) (ne : a ≠ b) (hz : kvs.length + more.length ≤ sizeLine) (h : ∀ s', Inv X pins σ (upd H a (.dK (mergeK kvs more))) s' → Q .none s') :
    wpAny (model X.prog X.w) A (call (.builtin "dict.update") [.ref a, .ref b]) Q E s := by
  obtain ⟨z, hd, vs, rel, dd⟩ := dk_of I.hok e
  obtain ⟨z2, hd2, ws, rel2, dd2⟩ := dk_of I.hok e2
  refine call_meetsIn PySem.F.slot_dict_update dd.typeIs PySem.F.entry_dict_update (PySem.F.args_dict_update_2 _ _) (meets_dict_update (mixKind X.prog X.w) a b ne hd2) ⟨vs, ws, dd, dd2, by rw [← rel.length, ← rel2.length]; exact hz, fun h' dd' _ hs => h _ ?_⟩
  have he : ∃ q, h'.get? a = some q := let ⟨q, _, _, hq, _⟩ := dd'; ⟨q, hq⟩
  exact d_write (t' := s.toks) I (by rw [e]; exact True.intro) hs he (dk_new (Nat.le_trans (length_mergeK more kvs) hz) hd (rel2.merge rel) dd')
end
def tDUpd (td te : TE) : TE := fun σ H Q => td σ H fun x H1 => ∃ a, x = .ref a ∧ IsD H1 a ∧ te σ H1 fun y H2 => ∃ b kvs more, y = .ref b ∧ a ≠ b ∧ H2 a = some (.dK kvs) ∧ H2 b = some (.dK more) ∧ kvs.length + more.length ≤ sizeLine ∧ Q .non (upd H2 a (.dK (mergeK kvs more)))
theorem pe_dupd {X : Cx} {o e : Expr} {td te : TE} {apos cpos : Pos} (ho : PE X o td) (he : PE X e te) (m : M1 X o "update" apos e cpos) : PE X (.Call (.Attribute o "update" apos) [e] [] cpos) (tDUpd td te) := by
  refine ⟨fun pins s σ H Q I h => ?_⟩
  refine wpAny_Call_method m.base m.few m.line PySem.F.plainAttrs_dict PySem.F.slot_dict_update PySem.F.type_dict_update (thn (ho.run pins s σ H _ I h) fun u s1 ⟨x, H1, I1, rx, a, ex, d, q1⟩ => ?_)
  subst ex
  obtain rfl : u = Value.ref a := rx
  obtain ⟨t1, t2, _⟩ := isD_at I1 d
  refine ⟨t1, t2, ?_⟩
  rw [m.trees]
  refine Calls.callWith_builtin rfl (Calls.evalArgs_plain (Calls.spliced_cons (thn (he.run pins s1 σ H1 _ I1 q1) fun iv s2 ⟨y, H2, I2, ry, b, kvs, more, ey, ne, ea, eb, z, q2⟩ => Calls.spliced_nil ?_)))
  subst ey
  obtain rfl : iv = Value.ref b := ry
  exact d_upd I2 ea eb ne z fun s3 I3 => ⟨.non, _, I3, rfl, q2⟩
end WR
/-! t[a:b] of a tuple stands in HandS.TupAny -/
namespace WR
open PySem PySem.Spec PyProof.Rows L2 LamX
/-! ### the head's run looked at in parts (each part runs anew, so that no one takes too much memory) -/
noncomputable abbrev endT (r : PySem.W.OpenRow) (M : Nat) (w : World) (os : OsState) : Option PySem.W.SharedT := HandSHeadRun.endF (HandSHeadRun.stepQ (HandSHeadRun.denQ HandSHeadRun.tabQ) r.prog w) M r.prog w os
def RunL (r : PySem.W.OpenRow) (q : Program) (M : Nat) (loose : List Str) (w : World) : Prop := ∀ os : OsState, (endT r M w os).map (fun s => (HandSHeadRun.looksF r.prog (PySem.W.boot_heap w.params) s.abs, HandSHeadRun.seenQ q loose (importedModules r.prog.main.body) (fun s => PySem.W.xlAt q [] s && PySem.W.recOk r.toRowW.records s) s.abs)) = some (true, PySem.W.openGood q loose)
def RunP (r : PySem.W.OpenRow) (M n : Nat) (fa : List He.Fa) (fn : List He.DefD) (ts : List He.Tab) (tf : List He.Defn) (gs : List GetD) (ex : PySem.W.Frag → Bool) (w : World) : Prop := ∀ os : OsState, (endT r M w os).map (fun s => obsZ n fa fn ts tf gs ex (HandSHeadRun.getT s)) = some (valZ fn ts gs w)
theorem obsZ_app {n : Nat} {fa1 fa2 : List He.Fa} {fn1 fn2 : List He.DefD} {ts : List He.Tab} {tf : List He.Defn} {gs : List GetD} {ex : PySem.W.Frag → Bool} {g : Addr → Option Obj} {w : World} (h1 : obsZ n fa1 fn1 [] [] [] (fun _ => true) g = valZ fn1 [] [] w) (h2 : obsZ n fa2 fn2 ts tf gs ex g = valZ fn2 ts gs w) :
    obsZ n (fa1 ++ fa2) (fn1 ++ fn2) ts tf gs ex g = valZ (fn1 ++ fn2) ts gs w := by
  unfold obsZ He.obsX He.obsT He.obsD valZ He.valX He.valT He.valD at *
  simp only [Prod.mk.injEq, List.all_append, List.map_append, Bool.and_eq_true] at h1 h2 ⊢
  obtain ⟨⟨⟨⟨a1, a2⟩, a3⟩, a4⟩, a5⟩ := h1
  obtain ⟨⟨⟨⟨b1, b2⟩, b3⟩, b4⟩, b5⟩ := h2
  exact ⟨⟨⟨⟨⟨⟨a1.1, b1.1⟩, a1.2, b1.2⟩, by rw [a2, b2]⟩, b3⟩, b4⟩, b5⟩
theorem RunP.app {r : PySem.W.OpenRow} {M n : Nat} {fa1 fa2 : List He.Fa} {fn1 fn2 : List He.DefD} {ts : List He.Tab} {tf : List He.Defn} {gs : List GetD} {ex : PySem.W.Frag → Bool} {w : World} (h1 : RunP r M n fa1 fn1 [] [] [] (fun _ => true) w) (h2 : RunP r M n fa2 fn2 ts tf gs ex w) : RunP r M n (fa1 ++ fa2) (fn1 ++ fn2) ts tf gs ex w := fun os => by
  have e1 := h1 os
  have e2 := h2 os
  revert e1 e2
  generalize endT r M w os = X
  intro e1 e2
  cases X with
  | none => cases e1
  | some s => exact congrArg some (obsZ_app (Option.some.inj e1) (Option.some.inj e2))
theorem runEq_of {r : PySem.W.OpenRow} {q : Program} {M n : Nat} {loose : List Str} {fa : List He.Fa} {fn : List He.DefD} {ts : List He.Tab} {tf : List He.Defn} {gs : List GetD} {ex : PySem.W.Frag → Bool} {w : World} (h1 : RunL r q M loose w) (h2 : RunP r M n fa fn ts tf gs ex w) :
    HandSHeadRun.RunEq r q (hookZ n fa fn ts tf gs ex) (fun s => obsZ n fa fn ts tf gs ex (HandSHeadRun.getT s)) M loose w := fun os => by
  have e1 := h1 os
  have e2 := h2 os
  revert e1 e2
  show _ → _ → (endT r M w os).map _ = _
  generalize endT r M w os = X
  intro e1 e2
  cases X with
  | none => cases e1
  | some s =>
    have a1 := Option.some.inj e1
    have a2 := Option.some.inj e2
    show some (_, _, _) = some (_, _, _)
    rw [a2, (Prod.mk.inj a1).1, (Prod.mk.inj a1).2]
    rfl
end WR
namespace WR
open PySem PySem.Spec PyProof.Rows L2 LamX
/-! ### calls by keywords alone, in any order: each parameter picks its value -/
def pk {α : Type} (is : List Nat) (l : List α) : List α := is.filterMap fun i => l[i]?
theorem Vals.nth {vs : List V} {us : List Value} (h : Vals vs us) : ∀ i : Nat, (∃ v u, vs[i]? = some v ∧ us[i]? = some u ∧ RelV v u) ∨ (vs[i]? = none ∧ us[i]? = none) := by
  induction h with
  | nil => exact fun i => .inr ⟨rfl, rfl⟩
  | cons r _ ih =>
    intro i
    cases i with
    | zero => exact .inl ⟨_, _, rfl, rfl, r⟩
    | succ i => exact ih i
theorem pk_vals {vs : List V} {us : List Value} (h : Vals vs us) : ∀ is : List Nat, Vals (pk is vs) (pk is us)
  | [] => .nil
  | i :: is => by
    unfold pk
    rcases Vals.nth h i with ⟨v, u, e1, e2, r⟩ | ⟨e1, e2⟩
    · rw [List.filterMap_cons_some e1, List.filterMap_cons_some e2]
      exact .cons r (pk_vals h is)
    · rw [List.filterMap_cons_none e1, List.filterMap_cons_none e2]
      exact pk_vals h is
abbrev KBk (K : PySem.W.Frag) (fd : FuncData) (ps : List Str) (n : Nat) (ks : List Str) (is : List Nat) : Prop := KBn K fd ps n ks (fun us ws => pk is (us ++ ws)) (fun vs zs => pk is (vs ++ zs))
theorem kbk_of {K : PySem.W.Frag} {x qual : Str} {params : Arguments} {body : List Stmt} {scope : Scope} {f : Addr} {fd : FuncData} {ps : List Str} (F : FunD K x qual params body scope [] [] f fd) (n : Nat) (ks : List Str) (is : List Nat)
    (h : ∀ (kV doc pm : Value) (an : Option Addr) (cdv ct : Value) (us ws : List Value), us.length = n → ws.length = ks.length → bindArgs (PySem.W.fnOf x qual params body scope .none kV doc pm an cdv ct) ⟨us, ks.zip ws⟩ = pure (ps.zip (pk is (us ++ ws)))) : KBk K fd ps n ks is := by
  obtain ⟨oc, od, dV, kV, doc, pm, an, cdv, ct, osl, rfl, lk, hcd, hD, hK⟩ := F.ex
  rcases hD with ⟨_, rfl⟩ | ⟨e, _⟩
  · exact ⟨fun s us ws _ h1 h2 => .of_eq (h kV doc pm an cdv ct us ws h1 h2), fun r1 r2 => pk_vals (r1.append r2) is⟩
  · exact absurd rfl e
structure Mfk (CX : CXT) (P : Program) (w : World) (K : PySem.W.Frag) (mg : Str → Option Value) (base : Heap) (k : Nat) (C : Addr) (m : Str) (ps ks : List Str) (is : List Nat) (sp : Sp) : Prop where
  ex : ∃ (f : Addr) (fd : FuncData), Meth K C m f ∧ FnOk P w K mg base CX k f fd ps sp ∧ KBk K fd ps 1 ks is
structure Kfk (P : Program) (w : World) (K : PySem.W.Frag) (mg : Str → Option Value) (base : Heap) (k : Nat) (x : Str) (C : Addr) (ps ks : List Str) (is : List Nat) (sp : Sp) : Prop where
  ex : ∃ (f : Addr) (fd : FuncData), Mk K C f ∧ FnOk P w K mg base CX0 k f fd ps sp ∧ KBk K fd ps 1 ks is ∧ mg x = some (.ref C)
structure Cfk (CX : CXT) (P : Program) (w : World) (K : PySem.W.Frag) (mg : Str → Option Value) (base : Heap) (k : Nat) (x : Str) (ps ks : List Str) (is : List Nat) (sp : Sp) : Prop where
  ex : ∃ (f : Addr) (fd : FuncData), FnOk P w K mg base CX k f fd ps sp ∧ mg x = some (.ref f) ∧ PySem.W.keepIn K (.ref f) = true ∧ KBk K fd ps 0 ks is
section
variable {CX : CXT} {P : Program} {w : World} {K : PySem.W.Frag} {mg : Str → Option Value} {base : Heap}
theorem mfk_of {C : Addr} {m qual : Str} {st : Stmt} {f : Addr} {fd : FuncData} {N ps : List Str} {k : Nat} {sp : Sp} (ks : List Str) (is : List Nat) (F : FDm K m qual st f fd) (hm : Meth K C m f) (S : FnScope N ps (defScope st)) (len : ∀ vs H Q E, sp vs H Q E → vs.length = ps.length)
    (b1 : ∀ (kV dc pm : Value) (an : Option Addr) (cdv ct : Value) (us : List Value), us.length = ps.length → bindArgs (PySem.W.fnOf m qual (defArgs st) (defBody st) (defScope st) .none kV dc pm an cdv ct) ⟨us, []⟩ = pure (ps.zip us))
    (bk : ∀ (kV doc pm : Value) (an : Option Addr) (cdv ct : Value) (us ws : List Value), us.length = 1 → ws.length = ks.length → bindArgs (PySem.W.fnOf m qual (defArgs st) (defBody st) (defScope st) .none kV doc pm an cdv ct) ⟨us, ks.zip ws⟩ = pure (ps.zip (pk is (us ++ ws))))
    (hb : ∀ (cdv : Value) (A : Around) (outer : List Env) (s : Shared) (H : Hp) (vs : List V) (Q : VK) (E : XK), Room k (A.deeper (envOfC qual (defScope st) s.heap.objs.size f cdv)) → sp vs H Q E →
      ∃ t, PSs (cxOf CX P w K mg base N qual (defScope st) f cdv A outer s H E) (defBody st) t ∧ t { nx := fun _ H' => Q .non H', rt := Q } (start N vs) H) : Mf CX P w K mg base (k + 1) C m ps sp ∧ Mfk CX P w K mg base (k + 1) C m ps ks is sp := by
  obtain ⟨a, b⟩ := fm_of F S len b1 hb
  exact ⟨⟨f, fd, hm, a, b⟩, ⟨f, fd, hm, a, kbk_of F 1 ks is bk⟩⟩
theorem mfk_of0 {C : Addr} {m qual : Str} {st : Stmt} {f : Addr} {fd : FuncData} {N ps : List Str} {k : Nat} {sp : Sp} (ks : List Str) (is : List Nat) (F : FDm K m qual st f fd) (hm : Meth K C m f) (S : FnScope N ps (defScope st)) (len : ∀ vs H Q E, sp vs H Q E → vs.length = ps.length)
    (b1 : ∀ (kV dc pm : Value) (an : Option Addr) (cdv ct : Value) (us : List Value), us.length = ps.length → bindArgs (PySem.W.fnOf m qual (defArgs st) (defBody st) (defScope st) .none kV dc pm an cdv ct) ⟨us, []⟩ = pure (ps.zip us))
    (bk : ∀ (kV doc pm : Value) (an : Option Addr) (cdv ct : Value) (us ws : List Value), us.length = 1 → ws.length = ks.length → bindArgs (PySem.W.fnOf m qual (defArgs st) (defBody st) (defScope st) .none kV doc pm an cdv ct) ⟨us, ks.zip ws⟩ = pure (ps.zip (pk is (us ++ ws))))
    (hb : ∀ (cdv : Value) (A : Around) (outer : List Env) (s : Shared) (H : Hp) (vs : List V) (Q : VK) (E : XK), Room k (A.deeper (envOfC qual (defScope st) s.heap.objs.size f cdv)) → sp vs H Q E →
      ∃ t, PSs (cxOf CX0 P w K mg base N qual (defScope st) f cdv A outer s H E).nox (defBody st) t ∧ t { nx := fun _ H' => Q .non H', rt := Q } (start N vs) H) : Mf CX0 P w K mg base (k + 1) C m ps sp ∧ Mfk CX0 P w K mg base (k + 1) C m ps ks is sp :=
  mfk_of ks is F hm S len b1 bk fun cdv A outer s H vs Q E hr h => by
    obtain ⟨t, h1, h2⟩ := hb cdv A outer s H vs Q E hr h
    exact ⟨t, h1.nox, h2⟩
theorem kfk_of1 {x qual : Str} {C : Addr} {st : Stmt} {dv : V} {f : Addr} {fd : FuncData} {N ps : List Str} {k : Nat} {sp : Sp} (ks : List Str) (is : List Nat)
    (F : FunD K "__init__" qual (defArgs st) (defBody st) (defScope st) [dv] [] f fd) (hm : Mk K C f) (gx : mg x = some (.ref C)) (S : FnScope N ps (defScope st)) (len : ∀ vs H Q E, sp vs H Q E → vs.length = ps.length)
    (b1 : ∀ (T : Addr) (kV doc pm : Value) (an : Option Addr) (cdv ct : Value) (us its : List Value), us.length = ps.length → its.length = 1 →
      ∃ k, bindArgs (PySem.W.fnOf "__init__" qual (defArgs st) (defBody st) (defScope st) (.ref T) kV doc pm an cdv ct) ⟨us, []⟩ = seqItems? (.ref T) >>= k ∧ k (some its.toArray) = pure (ps.zip (us ++ its.drop 1)))
    (bk : ∀ (T : Addr) (kV doc pm : Value) (an : Option Addr) (cdv ct : Value) (us its ws : List Value), us.length = 1 → its.length = 1 → ws.length = ks.length →
      ∃ k, bindArgs (PySem.W.fnOf "__init__" qual (defArgs st) (defBody st) (defScope st) (.ref T) kV doc pm an cdv ct) ⟨us, ks.zip ws⟩ = seqItems? (.ref T) >>= k ∧ k (some its.toArray) = pure (ps.zip (pk is (us ++ ws))))
    (hb : ∀ (cdv : Value) (A : Around) (outer : List Env) (s : Shared) (H : Hp) (vs : List V) (Q : VK) (E : XK), Room k (A.deeper (envOfC qual (defScope st) s.heap.objs.size f cdv)) → sp vs H Q E →
      ∃ t, PSs (cxOf CX0 P w K mg base N qual (defScope st) f cdv A outer s H E).nox (defBody st) t ∧ t { nx := fun _ H' => Q .non H', rt := Q } (start N vs) H) : Kf P w K mg base (k + 1) x C ps sp ∧ Kfk P w K mg base (k + 1) x C ps ks is sp := by
  have ok : FnOk P w K mg base CX0 (k + 1) f fd ps sp := F.ok S len fun cdv A outer s H vs Q E hr h => by
    obtain ⟨t, h1, h2⟩ := hb cdv A outer s H vs Q E hr h
    exact ⟨t, h1.nox, h2⟩
  obtain ⟨ds, r, b⟩ := F.binds1 (ps := ps) ps.length 1 (by intro z; cases z) (by show ps.length + (1 - 1) = ps.length; omega) fun T kV doc pm an cdv ct us its h1 h2 => b1 T kV doc pm an cdv ct us its h1 h2
  cases r
  obtain ⟨its, q⟩ := F.kbindsD (ps := ps) 1 ks (fun us _ ws => pk is (us ++ ws)) (by intro z; cases z) (fun r1 _ r3 => pk_vals (r1.append r3) is) fun T kV doc pm an cdv ct us its ws h1 h2 h3 => bk T kV doc pm an cdv ct us its ws h1 h2 h3
  exact ⟨⟨f, fd, hm, ok, b, gx⟩, ⟨f, fd, hm, ok, ⟨q.to, q.rel⟩, gx⟩⟩
theorem cfk_of {x : Str} {st : Stmt} {f : Addr} {fd : FuncData} {N ps : List Str} {k : Nat} {sp : Sp} (ks : List Str) (is : List Nat) (F : FD K x st f fd) (hm : mg x = some (.ref f)) (S : FnScope N ps (defScope st)) (len : ∀ vs H Q E, sp vs H Q E → vs.length = ps.length)
    (b1 : ∀ (kV dc pm : Value) (an : Option Addr) (cdv ct : Value) (us : List Value), us.length = ps.length → bindArgs (PySem.W.fnOf x x (defArgs st) (defBody st) (defScope st) .none kV dc pm an cdv ct) ⟨us, []⟩ = pure (ps.zip us))
    (b2 : ∀ (kV dc pm : Value) (an : Option Addr) (cdv ct : Value) (us : List Value), us.length = ps.length → bindArgs (PySem.W.fnOf x x (defArgs st) (defBody st) (defScope st) .none kV dc pm an cdv ct) ⟨[], ps.zip us⟩ = pure (ps.zip us))
    (bk : ∀ (kV doc pm : Value) (an : Option Addr) (cdv ct : Value) (us ws : List Value), us.length = 0 → ws.length = ks.length → bindArgs (PySem.W.fnOf x x (defArgs st) (defBody st) (defScope st) .none kV doc pm an cdv ct) ⟨us, ks.zip ws⟩ = pure (ps.zip (pk is (us ++ ws))))
    (hb : ∀ (cdv : Value) (A : Around) (outer : List Env) (s : Shared) (H : Hp) (vs : List V) (Q : VK) (E : XK), Room k (A.deeper (envOfC x (defScope st) s.heap.objs.size f cdv)) → sp vs H Q E →
      ∃ t, PSs (cxOf CX P w K mg base N x (defScope st) f cdv A outer s H E) (defBody st) t ∧ t { nx := fun _ H' => Q .non H', rt := Q } (start N vs) H) : Cf CX P w K mg base (k + 1) x ps sp ∧ Cfk CX P w K mg base (k + 1) x ps ks is sp := by
  have ok := F.ok (P := P) (w := w) (mg := mg) (base := base) (CX := CX) S len hb
  refine ⟨cf_of F hm S len b1 b2 hb, ⟨f, fd, ok, hm, F.kp, kbk_of F 0 ks is bk⟩⟩
end
theorem run_fnK {X : Cx} {CX : CXT} {k n : Nat} {f : Addr} {fd : FuncData} {ps ks : List Str} {sp : Sp} {E : L2.St → XK} {g : List Value → List Value → List Value} {gV : List V → List V → List V} {pins : List (Addr × Obj)} {σ : L2.St} {H : Hp} {s : Shared} {Q : VK} {us ws : List Value} {vs zs : List V}
    (F : FnOk X.prog X.w X.K X.mg X.base CX k f fd ps sp) (hr : Room k X.A) (hb : KBn X.K fd ps n ks g gV) (hx : PassesAt CX X σ (E σ))
    (I : Inv X pins σ H s) (r : Vals vs us) (rz : Vals zs ws) (l1 : vs.length = n) (l2 : zs.length = ks.length) (h : sp (gV vs zs) H Q (E σ)) : wpAny (model X.prog X.w) X.A (call (.ref f) us (ks.zip ws)) (EP X pins σ Q) X.xe s := by
  have r2 := hb.rel r rz
  refine wpAny_call (codeAny_mono (F.run X.A X.stack s H ⟨us, ks.zip ws⟩ (g us ws) (gV vs zs) Q (E σ) hr I.env0 (hb.to s us ws I.kIn (r.length.symm.trans l1) (rz.length.symm.trans l2)) r2 h) fun r s' hq => ?_)
  cases r with
  | error e => exact hx pins H s e s' I hq
  | ok fl =>
    cases fl with
    | ret u => exact I.after hq
    | next => exact False.elim hq
    | brk => exact False.elim hq
    | cont => exact False.elim hq
/-! ### the calls -/
def tMk (C : Addr) (m : Str) (n : Nat) (is : List Nat) (sp : Sp) (W : WX) (ta : TE) (tk : TA) : TE := fun σ H Q => ta σ H fun x H1 => ∃ a dx fs, x = .ref a ∧ H1 a = some (.ins C dx fs) ∧ fs.lookup m = none ∧ tk σ H1 fun zs H2 => zs.length = n ∧ sp (pk is (x :: zs)) H2 Q fun cls d H3 => W cls d σ H3
def tMk0 (C : Addr) (m : Str) (n : Nat) (is : List Nat) (sp : Sp) (ta : TE) (tk : TA) : TE := fun σ H Q => ta σ H fun x H1 => ∃ a dx fs, x = .ref a ∧ H1 a = some (.ins C dx fs) ∧ fs.lookup m = none ∧ tk σ H1 fun zs H2 => zs.length = n ∧ sp (pk is (x :: zs)) H2 Q E0
def tNk (C : Addr) (n : Nat) (is : List Nat) (sp : Sp) (tk : TA) : TE := fun σ H Q => tk σ H fun zs H2 => ([] : List V).length = 0 ∧ zs.length = n ∧ ∀ x dx, H2 x = none → H2 dx = none → dx ≠ x → sp (pk is ([.ref x] ++ zs)) (upd (upd H2 dx (.own x)) x (.ins C dx [])) (fun v H3 => v = .non ∧ Q (.ref x) H3) E0
def tCk (n : Nat) (is : List Nat) (sp : Sp) (W : WX) (tk : TA) : TE := fun σ H Q => tk σ H fun zs H2 => zs.length = n ∧ sp (pk is zs) H2 Q fun cls d H3 => W cls d σ H3
section
variable {X : Cx} {C : Addr} {x m : Str} {ps ks : List Str} {is : List Nat} {k j : Nat} {sp : Sp} {p apos pos : Pos} {o : Expr} {kws : List Keyword} {ta : TE} {tk : TA}
theorem pe_mk {W : WX} {pl : Sem Bool} (M : Mfk (CXr X.prog X.w) X.prog X.w X.K X.mg X.base k C m ps ks is sp) (he : PE X o ta) (c : Cls X.K C) (hr : Room j X.A) (hk : k ≤ j) (tw : Takes X W) (hkw : PK X kws tk)
    (hall : (backToKw pos (keywordEach kws X.env)).all (·.1.isSome) = true := by rfl) (hks : (backToKw pos (keywordEach kws X.env)).filterMap (·.1) = ks := by rfl)
    (hpl : ((backTo pos (starEach [] X.env)).any (·.1) || (backToKw pos (keywordEach kws X.env)).any (·.1.isNone)) = false := by rfl)
    (ht : eval (.Call (.Attribute o m apos) [] kws pos) X.env = (do
      let ov ← eval o X.env
      standAt apos.atName
      let (f, first) ← holding [ov] (getMethod ov m pl)
      callWith pos f first (backTo pos (starEach [] X.env)) (backToKw pos (keywordEach kws X.env))) := by rfl) :
    PE X (.Call (.Attribute o m apos) [] kws pos) (tMk C m ks.length is sp W ta tk) := by
  obtain ⟨f, fd, hm, F, hb⟩ := M.ex
  refine ⟨fun pins s σ H Q I h => ?_⟩
  refine PySem.W.methodCall_KW (pl := pl) (thn (he.run pins s σ H _ I h) fun u s1 ⟨x, H1, I1, rx, a, dx, fs, ex, ea, l, q⟩ => ?_) ht
  subst ex
  obtain rfl : u = Value.ref a := rx
  refine getmeth_ok I1 ea c hm l ?_
  refine PySem.W.callWith_KW0 (first := [.ref a]) (h₀ := X.base) I.ok.mod.kin hm.kp hall (thn (hkw.run pos pins s1 σ H1 _ I1 q) fun ws s2 ⟨zs, H2, I2, rz, l2, q2⟩ => ⟨I2.kIn, ?_⟩) hpl
  rw [hks]
  exact run_fnK (E := WE W) (us := [.ref a]) (vs := [.ref a]) F (hr.mono hk) hb (passAt tw σ) I2 (.cons rfl .nil) rz rfl l2 q2
theorem pe_mk0 {pl : Sem Bool} (M : Mfk CX0 X.prog X.w X.K X.mg X.base k C m ps ks is sp) (he : PE X o ta) (c : Cls X.K C) (hr : Room j X.A) (hk : k ≤ j) (hkw : PK X kws tk)
    (hall : (backToKw pos (keywordEach kws X.env)).all (·.1.isSome) = true := by rfl) (hks : (backToKw pos (keywordEach kws X.env)).filterMap (·.1) = ks := by rfl)
    (hpl : ((backTo pos (starEach [] X.env)).any (·.1) || (backToKw pos (keywordEach kws X.env)).any (·.1.isNone)) = false := by rfl)
    (ht : eval (.Call (.Attribute o m apos) [] kws pos) X.env = (do
      let ov ← eval o X.env
      standAt apos.atName
      let (f, first) ← holding [ov] (getMethod ov m pl)
      callWith pos f first (backTo pos (starEach [] X.env)) (backToKw pos (keywordEach kws X.env))) := by rfl) :
    PE X (.Call (.Attribute o m apos) [] kws pos) (tMk0 C m ks.length is sp ta tk) := by
  obtain ⟨f, fd, hm, F, hb⟩ := M.ex
  refine ⟨fun pins s σ H Q I h => ?_⟩
  refine PySem.W.methodCall_KW (pl := pl) (thn (he.run pins s σ H _ I h) fun u s1 ⟨x, H1, I1, rx, a, dx, fs, ex, ea, l, q⟩ => ?_) ht
  subst ex
  obtain rfl : u = Value.ref a := rx
  refine getmeth_ok I1 ea c hm l ?_
  refine PySem.W.callWith_KW0 (first := [.ref a]) (h₀ := X.base) I.ok.mod.kin hm.kp hall (thn (hkw.run pos pins s1 σ H1 _ I1 q) fun ws s2 ⟨zs, H2, I2, rz, l2, q2⟩ => ⟨I2.kIn, ?_⟩) hpl
  rw [hks]
  exact run_fnN (us := [.ref a]) (vs := [.ref a]) F (hr.mono hk) hb pass0 I2 (.cons rfl .nil) rz rfl l2 q2
theorem pe_newk (M : Kfk X.prog X.w X.K X.mg X.base k x C ps ks is sp) (hr : Room j X.A) (hk : k + 1 ≤ j) (hg : Gl X x) (hkw : PK X kws tk) (hdb : (x == ("__debug__" : Str)) = false := by decide)
    (hall : (backToKw pos (keywordEach kws X.env)).all (·.1.isSome) = true := by rfl) (hks : (backToKw pos (keywordEach kws X.env)).filterMap (·.1) = ks := by rfl)
    (hpl : ((backTo pos (starEach [] X.env)).any (·.1) || (backToKw pos (keywordEach kws X.env)).any (·.1.isNone)) = false := by rfl) :
    PE X (.Call (.Name x p) [] kws pos) (tNk C ks.length is sp tk) := by
  obtain ⟨f, fd, hm, F, hb, gx⟩ := M.ex
  refine ⟨fun pins s σ H Q I h => ?_⟩
  refine (pe_makeK0 hm F (hr.mono hk) hg gx hb pass0 hkw hall hks hdb hpl).run pins s σ H Q I ?_
  exact h
theorem pe_ck {W : WX} (c : Cfk (CXr X.prog X.w) X.prog X.w X.K X.mg X.base k x ps ks is sp) (hr : Room j X.A) (hk : k ≤ j) (tw : Takes X W) (hg : Gl X x) (hkw : PK X kws tk)
    (hall : (backToKw pos (keywordEach kws X.env)).all (·.1.isSome) = true := by rfl) (hks : (backToKw pos (keywordEach kws X.env)).filterMap (·.1) = ks := by rfl) (hdb : (x == ("__debug__" : Str)) = false := by decide)
    (hpl : ((backTo pos (starEach [] X.env)).any (·.1) || (backToKw pos (keywordEach kws X.env)).any (·.1.isNone)) = false := by rfl) : PE X (.Call (.Name x p) [] kws pos) (tCk ks.length is sp W tk) := by
  obtain ⟨f, fd, F, hm, kp, hb⟩ := c.ex
  refine ⟨fun pins s σ H Q I h => wpAny_Call_Name_kw (ld_glob I hg hm ?_ hdb)⟩
  refine PySem.W.callWith_KW0 (h₀ := X.base) I.ok.mod.kin kp hall (thn (hkw.run pos pins s σ H _ I h) fun ws s2 hq => ?_) hpl
  obtain ⟨zs, H2, I2, rz, l2, q2⟩ := hq
  refine ⟨I2.kIn, ?_⟩
  rw [hks]
  exact run_fnK (E := WE W) (us := []) (vs := []) F (hr.mono hk) hb (passAt tw σ) I2 .nil rz rfl l2 q2
end
end WR
namespace WR
open PySem PySem.Spec PyProof.Rows L2 LamX
/-! ### sets of texts that can be walked: set(list of texts), sorted of it -/
def txOf (e : Int × Value) : Str := match e.2 with
  | .str x _ => x
  | _ => Str.empty
def TxE (w : World) (e : Int × Value) : Prop := ∃ x t, e.2 = Value.str x t ∧ e.1 = hashStr w x
/-- what the set's object holds: its members are just those of xs -/
structure TxD (w : World) (es : Array (Int × Value)) (t : SetTable) (xs : List Str) : Prop where
  el : ∀ e ∈ es.toList, TxE w e
  nd : (es.toList.map txOf).Nodup
  mem : ∀ x, x ∈ es.toList.map txOf ↔ x ∈ xs
  fit : t.fits es.size = true
  ris : L2.Ris t.place.toList
  led : w.params.followText "set-order" = true ∨ t.led = true
structure TxS (w : World) (h : Heap) (a : Addr) (xs : List Str) : Prop where
  ex : ∃ o es ep t, h.get? a = some o ∧ o.ExactSet ∧ o.data = .set es ep t ∧ TxD w es t xs
theorem TxD.len {w : World} {es : Array (Int × Value)} {t : SetTable} {xs : List Str} (d : TxD w es t xs) : es.size ≤ xs.length := by
  have h := length_le_of_nodup_of_subset _ xs d.nd fun x hx => (d.mem x).mp hx
  rw [List.length_map, Array.length_toList] at h
  exact h
theorem TxS.keep {w : World} {h h' : Heap} {a : Addr} {xs : List Str} (R : TxS w h a xs) (k : ∀ o, h.get? a = some o → h'.get? a = some o) : TxS w h' a xs := by
  obtain ⟨o, es, ep, t, e, r⟩ := R.ex
  exact ⟨o, es, ep, t, k o e, r⟩
section
variable {P : Program} {w : World} {A : Around} {E : Value → Shared → Prop} {s : Shared} {a : Addr}
theorem tx_is {e : Int × Value} (g : TxE w e) (x : Str) : (PySem.strKind P w).is x e.2 = true ↔ txOf e = x := by
  obtain ⟨y, t, e1, _⟩ := g
  unfold txOf
  rw [e1]
  constructor
  · intro z
    obtain ⟨u, hu⟩ := Value.isStrOf_shape (show Value.isStrOf x (Value.str y t) = true from z)
    injection hu
  · rintro rfl
    exact strKind_is _ _ _ _
theorem tx_elems {l : List (Int × Value)} (g : ∀ e ∈ l, TxE w e) : ElemsOf (PySem.strKind P w) l := fun e he => by
  obtain ⟨x, t, h1, h2⟩ := g e he
  exact ⟨⟨x, by rw [h1]; exact strKind_is _ _ _ _, h2⟩, by rw [h1] <;> rfl⟩
/-- the last rows of adding: store, and lay anew where it is too full -/
theorem tx_tail {g : Bool → Sem Unit} (hg : ∀ (b : Bool) (s₁ : Shared) (Q' : Unit → Shared → Prop), Q' () s₁ → wpAny (model P w) A (g b) Q' E s₁) {o : Obj} {es es1 : Array (Int × Value)} {ep : Nat} {t t2 : SetTable} {xs : List Str}
    (ho : s.heap.get? a = some o) (hex : o.ExactSet) (hd : o.data = .set es ep t) (D : TxD w es1 t2 xs) (hb : es1.size < scanBound) {wasDummy : Bool} {R : Option Bool → Shared → Prop} (hR : ∀ h', Heap.SameBut a s.heap h' → TxS w h' a xs → R (some true) { s with heap := h' }) :
    wpAny (model P w) A (do
        storeSet a es1 t2
        if (!wasDummy && t2.tooFull) = true then do
            g (relayAll t2 es1 (SetTable.grown es1.size)).2.2
            storeSet a (relayAll t2 es1 (SetTable.grown es1.size)).1 (relayAll t2 es1 (SetTable.grown es1.size)).2.1
            pure (some true)
          else pure (some true)) R E s := by
  have at1 := L2.store_at (es' := es1) (t' := t2) ho hd
  have same1 := Heap.SameBut.update s.heap a (Obj.putSet es1 t2)
  refine wpAny_bind (wpAny_storeSet_of ho hd ?_ (fits_of_scanBound hb))
  by_cases full : (!wasDummy && t2.tooFull) = true
  · rw [if_pos full]
    obtain ⟨p1, p2, p3, p4⟩ : (relayAll t2 es1 (SetTable.grown es1.size)).1.toList.Perm es1.toList ∧ (relayAll t2 es1 (SetTable.grown es1.size)).2.1.fits (relayAll t2 es1 (SetTable.grown es1.size)).1.size = true ∧ L2.Ris (relayAll t2 es1 (SetTable.grown es1.size)).2.1.place.toList ∧ (relayAll t2 es1 (SetTable.grown es1.size)).2.1.led = t2.led :=
      ⟨relayAll_perm .., relayAll_fits .., L2.relayAll_ris .., L2.relayAll_led ..⟩
    revert p1 p2 p3 p4
    generalize relayAll t2 es1 (SetTable.grown es1.size) = Z
    obtain ⟨es2, t3, gave⟩ := Z
    dsimp only
    intro p1 p2 p3 p4
    have sz : es2.size = es1.size := by
      have := p1.length_eq
      rw [Array.length_toList, Array.length_toList] at this
      exact this
    refine wpAny_bind (hg _ _ _ (wpAny_bind (wpAny_storeSet_of at1 rfl ?_ (fits_of_scanBound (by rw [sz]; exact hb)))))
    refine wpAny_pure (hR _ (same1.trans (Heap.SameBut.update _ a _)) ⟨_, es2, _, t3, L2.store_at (es' := es2) (t' := t3) at1 rfl, hex, rfl, ?_⟩)
    exact ⟨fun e he => D.el e (p1.mem_iff.mp he), (p1.map txOf).nodup_iff.mpr D.nd, fun x => (p1.map txOf).mem_iff.trans (D.mem x), p2, p3, by rw [p4]; exact D.led⟩
  · rw [if_neg full]
    exact wpAny_pure (hR _ same1 ⟨_, es1, _, t2, at1, hex, rfl, D⟩)
theorem tx_add {x : Str} {tk : Tok} {xs : List Str} {Q : Bool → Shared → Prop} (R : TxS w s.heap a xs) (room : xs.length + 1 < scanBound) (hQ : ∀ b h', Heap.SameBut a s.heap h' → TxS w h' a (xs ++ [x]) → Q b { s with heap := h' }) :
    wpAny (model P w) A (setAddHashed a (.str x tk) ((PySem.strKind P w).hash x)) Q E s := by
  obtain ⟨o, es, ep, t, ho, hex, hd, D⟩ := R.ex
  have small : es.size < scanBound := by have := D.len; omega
  have scn : (Value.str x tk).scannable = true := rfl
  have els : ElemsOf (PySem.strKind P w) es.toList := tx_elems D.el
  have found : ∀ y, y ∈ es.toList.map txOf ↔ ∃ e ∈ es.toList, (PySem.strKind P w).is y e.2 = true := fun y => by
    rw [List.mem_map]
    exact ⟨fun ⟨e, he, q⟩ => ⟨e, he, (tx_is (D.el e he) y).2 q⟩, fun ⟨e, he, q⟩ => ⟨e, he, (tx_is (D.el e he) y).1 q⟩⟩
  unfold setAddHashed setAddHashedIn
  refine wpAny_holding (wpAny_bind (wpAny_setState_of ho hd D.fit ?_))
  dsimp only
  rw [byScan_of scn small els]
  simp only [↓reduceIte]
  unfold setAddByScan
  refine wpAny_bind (wpAny_bind (wpAny_rule (wpAny_bind (wpAny_setScan_of (strKind_is _ _ _ _) ho hd D.fit els ?_))))
  cases look : List.findIdx? (fun e => (PySem.strKind P w).is x e.2) es.toList with
  | some j =>
    dsimp only
    obtain ⟨hj, pj, _⟩ := List.findIdx?_eq_some_iff_getElem.mp look
    have there : x ∈ xs := (D.mem x).mp ((found x).2 ⟨_, List.getElem_mem hj, pj⟩)
    refine wpAny_pure (wpAny_pure (hQ _ s.heap (Heap.SameBut.refl a s.heap) ⟨o, es, ep, t, ho, hex, hd, ⟨D.el, D.nd, fun y => ?_, D.fit, D.ris, D.led⟩⟩))
    rw [D.mem y, List.mem_append, List.mem_singleton]
    exact ⟨.inl, fun q => q.elim id fun e => by rw [e]; exact there⟩
  | none =>
    dsimp only
    have fresh : x ∉ es.toList.map txOf := fun z => by
      obtain ⟨e, he, q⟩ := (found x).1 z
      have c := List.findIdx?_eq_none_iff.mp look e he
      rw [q] at c
      cases c
    have quiet : ∀ (b : Bool) {s₁ : Shared} {Q' : Unit → Shared → Prop}, Q' () s₁ → wpAny (model P w) A (match b with | true => rule "set.scan.the-table-gave-way" | false => pure ()) Q' E s₁ := by
      intro b s₁ Q' q
      cases b
      · exact wpAny_pure q
      · exact wpAny_rule q
    obtain ⟨p1, p2, p3, p4⟩ : (layNew t es ((PySem.strKind P w).hash x) (.str x tk)).1.toList.Perm (es.push ((PySem.strKind P w).hash x, Value.str x tk)).toList ∧ (layNew t es ((PySem.strKind P w).hash x) (.str x tk)).2.1.fits (layNew t es ((PySem.strKind P w).hash x) (.str x tk)).1.size = true ∧
        L2.Ris (layNew t es ((PySem.strKind P w).hash x) (.str x tk)).2.1.place.toList ∧ (layNew t es ((PySem.strKind P w).hash x) (.str x tk)).2.1.led = t.led := ⟨layNew_perm .., layNew_fits .., L2.layNew_ris _ _ _ _ D.ris, L2.layNew_led ..⟩
    revert p1 p2 p3 p4
    generalize layNew t es ((PySem.strKind P w).hash x) (.str x tk) = Z
    obtain ⟨es1, t1, wasDummy, gave⟩ := Z
    dsimp only
    intro p1 p2 p3 p4
    rw [Array.toList_push] at p1
    have pc := p1.trans (List.perm_append_singleton _ _)
    have pm : (es1.toList.map txOf).Perm (x :: es.toList.map txOf) := pc.map txOf
    have sz : es1.size = es.size + 1 := by
      have := pc.length_eq
      rw [Array.length_toList, List.length_cons, Array.length_toList] at this
      exact this
    have D1 : TxD w es1 t1 (xs ++ [x]) := ⟨fun e he => by
        rcases List.mem_cons.mp (pc.mem_iff.mp he) with z | z
        · rw [z]; exact ⟨x, tk, rfl, rfl⟩
        · exact D.el e z, pm.nodup_iff.mpr (List.nodup_cons.mpr ⟨fresh, D.nd⟩), fun y => by
        rw [pm.mem_iff, List.mem_cons, D.mem y, List.mem_append, List.mem_singleton]
        exact Or.comm, p2, p3, by rw [p4]; exact D.led⟩
    have b1 : es1.size < scanBound := by have := D.len; omega
    refine wpAny_bind (quiet _ ?_)
    split
    · refine wpAny_bind ?_
      rw [hashByValue_scannable 8 scn]
      refine wpAny_pure ?_
      refine tx_tail (xs := xs ++ [x]) ?_ ho hex hd ?_ b1 ?_
      · intro b s₁ Q' q
        exact quiet b q
      · first
          | exact D1
          | (split <;> first
              | exact D1
              | exact ⟨D1.el, D1.nd, D1.mem, SetTable.fits_plain_off D1.fit, D1.ris, D1.led⟩)
      · intro h' sb r
        dsimp only
        exact wpAny_pure (hQ _ h' sb r)
    · refine wpAny_bind (wpAny_pure ?_)
      simp only [↓reduceIte]
      refine tx_tail (xs := xs ++ [x]) ?_ ho hex hd D1 b1 ?_
      · intro b s₁ Q' q
        exact quiet b q
      · intro h' sb r
        dsimp only
        exact wpAny_pure (hQ _ h' sb r)
/-- set.update's loop over texts -/
theorem tx_loop {I : Addr} {fp wr : List Addr} {G : Array GenState → Array GenState → Prop} {n : Nat} {Pv : Nat → Value → Prop} {St : Nat → Shared → Prop} {R : Result → Shared → Prop} (W : WalksS P w A.in1 I fp wr G n Pv St) (S : Addr) (nS : S ∉ fp) (xs : List Str) (hn : n = xs.length) (room : xs.length + 1 < scanBound)
    (val : ∀ i v, Pv i v → ∃ x t, xs[i]? = some x ∧ v = .str x t) (k i : Nat) (s : Shared) (hk : n - i = k) (hi : i ≤ n) (st : St i s) (hS : TxS w s.heap S (xs.take i)) (hR : ∀ s', Moved (S :: wr) G s s' → TxS w s'.heap S xs → R (.ok (.ret .none)) s') :
    codeAny (model P w) A (.builtin "set.update.loop" ⟨[.ref S, .ref I], []⟩) R s := by
  have nW : S ∉ wr := fun h => nS (W.sub _ h)
  have more : ∀ b ∈ wr, b ∈ S :: wr := fun b hb => List.mem_cons_of_mem _ hb
  induction k generalizing i s with
  | zero =>
    obtain rfl : i = n := by omega
    rw [List.take_of_length_le (by omega)] at hS
    refine codeAny_builtin F.entry_set_update_loop ?_
    rw [Around.under_plainId F.plain_set_update_loop _]
    show wpAny _ A.in1 (pyNext (.ref I) >>= _) _ _ s
    refine wpAny_bind (W.done s _ _ st fun s' mv => ?_)
    exact wpAny_pure (hR s' (mv.mono more) (hS.keep fun o e => mv.heap S o nW e))
  | succ k ih =>
    have lt : i < n := by omega
    refine codeAny_builtin F.entry_set_update_loop ?_
    rw [Around.under_plainId F.plain_set_update_loop _]
    show wpAny _ A.in1 (pyNext (.ref I) >>= _) _ _ s
    refine wpAny_bind (W.item i s _ _ lt st fun v s' pv st' mv => ?_)
    obtain ⟨x, t, hx, rfl⟩ := val i v pv
    have hS1 := hS.keep fun o e => mv.heap S o nW e
    show wpAny _ A.in1 (holding [Value.str x t] (setAdd S (.str x t)) >>= _) _ _ s'
    refine wpAny_bind (wpAny_holding ?_)
    unfold setAdd
    refine wpAny_holding (wpAny_bind ((PySem.strKind P w).pyHash (strKind_is _ _ x t) ?_))
    refine tx_add (s := { s' with toks := s'.toks + 1 }) hS1 (by rw [List.length_take]; omega) fun _ h' sb hS2 => ?_
    have e1 : xs.take i ++ [x] = xs.take (i + 1) := by rw [List.take_add_one, hx]; rfl
    rw [e1] at hS2
    refine wpAny_pure ⟨plainId_quiet F.plain_set_update_loop _, ih (i + 1) _ (by omega) lt (W.frame _ s' _ _ st' (Nat.le_succ _) fun b hb o e => ?_) hS2 fun s2 mv2 => hR s2 (Moved.trans W.gtrans ((mv.mono more).then_heap (Nat.le_succ _) fun b o hb e => ?_) mv2)⟩
    · rw [sb.2 b (fun z : b = S => nS (by rw [← z]; exact hb))]; exact e
    · rw [sb.2 b (fun z : b = S => hb (by rw [z]; exact List.mem_cons_self))]; exact e
theorem tx_fresh {h : Heap} {a : Addr} (ho : h.get? a = some { cls := .type "set", dict := none, data := .set #[] 0 (.fresh 0 0 (!w.params.followText "set-order")) }) : TxS w h a [] :=
  ⟨_, #[], 0, _, ho, ⟨rfl, rfl, rfl⟩, rfl, (fun e he => by simp at he), by simp, fun x => by simp, by rfl, List.Pairwise.nil, by
    show _ ∨ (!w.params.followText "set-order") = true
    cases w.params.followText "set-order"
    · exact .inr rfl
    · exact .inl rfl⟩
/-- a new set's object -/
abbrev nwS (w : World) : Obj := { cls := .type "set", dict := none, data := .set #[] 0 (.fresh 0 0 (!w.params.followText "set-order")) }
theorem tx_call {l : Addr} {items : Array Value} {xs : List Str} {Q : Value → Shared → Prop} (hh : A.handled = none) (hl : s.heap.IsList l items) (hx : StrsAre items.toList xs) (room : xs.length + 1 < scanBound)
    (h : ∀ (h' : Heap) (tk : Nat), TxS w h' s.heap.objs.size xs → (∀ b o, s.heap.get? b = some o → h'.get? b = some o) → Q (.ref s.heap.objs.size) { s with heap := h', toks := tk }) :
    wpAny (model P w) A (call (.type "set") [.ref l]) Q E s := by
  have many : items.size = xs.length := by rw [← StrsAre.len_eq hx, Array.length_toList]
  obtain ⟨c, tl, hmro⟩ := F.called_set.mro
  have hmade := F.called_set.made
  have hsub := F.called_set.sub
  refine wpAny_call (codeAny_of_tree ?_)
  show wpAny _ _ (callAny (.type "set") _) _ _ _
  refine wpAny_pure ⟨Code.quiet_builtin _ (by decide +kernel), codeAny_builtin F.entry_type_call ?_⟩
  rw [Around.under_plain (weight_type_call_type "set" [.ref l] []) rfl]
  have h1 := F.called_set.notType
  have h2 := F.called_set.canCreate
  have hct := F.typeCall_set_1 (.ref l)
  repeat (any_goals (first | assumption | wp_step))
  refine codeAny_mono (L2.code_set_led1 (.ref l) (E := E) (Q₁ := fun obj s₁ => obj = .ref s.heap.objs.size ∧ s₁ = { s with heap := s.heap.push (nwS w) }) ⟨rfl, rfl⟩) fun r s₁ hr => ?_
  cases r with
  | error e => exact hr
  | ok fl =>
    cases fl with
    | next => exact hr.elim
    | brk => exact hr.elim
    | cont => exact hr.elim
    | ret obj =>
      obtain ⟨rfl, rfl⟩ := hr
      have hS : (s.heap.push (nwS w)).get? s.heap.objs.size = some (nwS w) := Heap.get?_push_size _ rfl
      have hT : Shared.TypeIs { s with heap := s.heap.push (nwS w) } (.ref s.heap.objs.size) "set" := ⟨_, hS, rfl⟩
      have hli := F.called_set.init.lookup
      have hbi := F.called_set.init.bind (.ref s.heap.objs.size)
      repeat (any_goals (first | assumption | wp_step))
      refine codeAny_mono (codeAny_call_builtin (R := wants (fun r s₂ => r = .none ∧ ∃ h' tk, s₂ = { s with heap := h', toks := tk } ∧ TxS w h' s.heap.objs.size xs ∧ (∀ b o, s.heap.get? b = some o → h'.get? b = some o)) E) F.called_set.init.plain F.entry_set_init (check_set_init_1 hT ?_)) fun r₂ s₂ hr₂ => ?_
      · obtain ⟨ol, hol, hcl, nl, hdl⟩ := hl
        obtain ⟨ocls, odict, odata, oslots⟩ := ol
        simp only at hcl hdl
        subst hcl; subst hdl
        have hol' : (s.heap.push (nwS w)).get? l = some { cls := .type "list", dict := odict, data := .seq items nl, slots := oslots } := Heap.get?_push_of_some _ hol
        have hsls := F.sub_list_set
        have hslf := F.sub_list_frozenset
        have hne : (Value.type "list" == Value.type "dict") = false := by decide
        have hl1 : (s.heap.push (nwS w)).IsList l items := ⟨_, hol', rfl, nl, rfl⟩
        unfold Builtin.«set.__init__» noKeywords Builtin.Frozenset.updateFrom
        generalize hPI : pyIter = PI
        wp_walk
        subst hPI
        refine wpAny_pyIter_list hl1 (wpAny_bind (wpAny_runValue ?_))
        have ll : l < s.heap.objs.size := Heap.lt_size hol
        have z1 : (s.heap.push (nwS w)).objs.size = s.heap.objs.size + 1 := Heap.size_push ..
        have nI : l ≠ (s.heap.push (nwS w)).objs.size := by rw [z1]; exact Nat.ne_of_lt (Nat.lt_succ_of_lt ll)
        have nS : s.heap.objs.size ∉ [(s.heap.push (nwS w)).objs.size, l] := by
          rw [z1]
          simp only [List.mem_cons, List.not_mem_nil, or_false, not_or]
          exact ⟨Nat.ne_of_lt (Nat.lt_succ_self _), Nat.ne_of_gt ll⟩
        refine tx_loop ((Walks.list (show A.in1.in1.in1.handled = none by simp [hh]) _ l nI items).toS) s.heap.objs.size nS xs many room (fun i v hv => ?_) (items.size - 0) 0 _ rfl (Nat.zero_le _) ⟨⟨_, Heap.get?_push_size _ rfl, rfl, rfl⟩, hl1.push _⟩ ?_ fun s' mv hS' => ?_
        · obtain ⟨x, t, e1, e2⟩ := StrsAre.item hx i v (by rw [Array.getElem?_toList]; exact hv)
          exact ⟨x, t, e2, e1⟩
        · exact tx_fresh (Heap.get?_push_of_some _ hS)
        · obtain ⟨h', g2, d', tk', os'⟩ := s'
          obtain rfl : g2 = s.gens := mv.gens
          obtain rfl : d' = s.drawn := mv.drawn
          obtain rfl : os' = s.os := mv.os
          show wpAny _ _ _ _ _ _
          refine wpAny_pure ?_
          show wpAny _ _ (ret Value.none) _ _ _
          refine wpAny_pure ⟨rfl, h', tk', rfl, hS', fun b o e => ?_⟩
          have b0 : b < s.heap.objs.size := Heap.lt_size e
          refine mv.heap b o ?_ (Heap.get?_push_of_some _ (Heap.get?_push_of_some _ e))
          rw [z1]
          simp only [List.mem_cons, List.not_mem_nil, or_false, not_or]
          exact ⟨Nat.ne_of_lt b0, Nat.ne_of_lt (Nat.lt_succ_of_lt b0)⟩
      · cases r₂ with
        | error e => exact hr₂
        | ok fl₂ =>
          cases fl₂ with
          | next => exact hr₂.elim
          | brk => exact hr₂.elim
          | cont => exact hr₂.elim
          | ret r =>
            obtain ⟨rfl, h', tk, rfl, hS', k⟩ := hr₂
            repeat (any_goals (first | assumption | wp_step))
            exact h _ _ hS' k
theorem strs_txt : ∀ (l : List Value), (∀ v ∈ l, ∃ x t, v = Value.str x t) → StrsAre l (l.map fun v => txOf (0, v))
  | [], _ => .nil
  | v :: r, h => by
    obtain ⟨x, t, rfl⟩ := h v List.mem_cons_self
    exact .cons x t (strs_txt r fun u hu => h u (List.mem_cons_of_mem _ hu))
theorem tx_sorted {xs : List Str} {Q : Value → Shared → Prop} (R : TxS w s.heap a xs) (hh : A.handled = none) (room : xs.length < scanBound) (line : xs.length ≤ sizeLine)
    (hQ : ∀ s' p (out : Array Value) (c : Nat) (ys : List Str), (∀ b o, s.heap.get? b = some o → s'.heap.get? b = some o) → s'.gens = s.gens → s'.os = s.os → s.heap.objs.size ≤ p → s'.heap.get? p = some (seqObj "list" out c) → StrsAre out.toList ys → ys.Nodup → (∀ x, x ∈ ys ↔ x ∈ xs) → sortedS ys = true → Q (.ref p) s') :
    wpAny (model P w) A (call (.builtin "sorted") [.ref a]) Q E s := by
  obtain ⟨o, es, ep, t, ho, hex, hd, D⟩ := R.ex
  have small := D.len
  refine Calls.call_function_entry kind_sorted plain_sorted entry_sorted (args_sorted1 _) ?_
  unfold Builtin.«sorted»
  refine wpAny_bind (m := checkCount "sorted" 1 1 _) (wpAny_pure (wpAny_bind (L2.collect_set (A := A.in1) hh ⟨o, ho, hex.1, hd⟩ D.fit (by omega) D.ris D.led fun s1 vs k1 hz g1 o1 pm => ?_)))
  have ln : vs.length = es.size := by rw [pm.length_eq, List.length_map, Array.length_toList]
  have tx := strs_txt vs fun v hv => by
    obtain ⟨e, he, q⟩ := List.mem_map.mp (pm.mem_iff.mp hv)
    obtain ⟨x, t, e1, _⟩ := D.el e he
    exact ⟨x, t, by rw [← q]; exact e1⟩
  have pk : (vs.map fun v => txOf (0, v)).Perm (es.toList.map txOf) := by
    have q := pm.map fun v => txOf (0, v)
    rw [List.map_map] at q
    exact q
  refine wpAny_bind (wpAny_newList ?_ (by rw [ln]; omega))
  have at1 : (s1.heap.push (seqObj "list" vs.toArray 0)).get? s1.heap.objs.size = some (seqObj "list" vs.toArray 0) := Heap.get?_push_size _ rfl
  refine wpAny_bind (wpAny_holding (wpAny_call_entry slot_list_sort ⟨_, at1, rfl⟩ entry_list_sort (list_sort_treeKAny strKind_oneLt at1 tx.keysOf (fun v₁ v₂ rest e => keyKind_strs (by rw [← e]; exact tx)) (by rw [ln]; omega) fun st' a1 a2 => ⟨_, rfl, ?_⟩) (args_list_sort _)))
  obtain ⟨ys, y1, y2, y3⟩ := sorted_out_str tx a1 a2
  obtain ⟨c, hc⟩ := sortedHeap_at (vs := vs) (out := (arrOf st').map (·.2)) at1
  refine wpAny_pure ⟨_, rfl, hQ _ s1.heap.objs.size _ c ys (fun b u e => ?_) g1 o1 hz hc y1 ((y2.trans pk).nodup_iff.mpr D.nd) (fun x => (y2.trans pk).mem_iff.trans (D.mem x)) y3⟩
  have q := k1 b u e
  have lt := Heap.lt_size q
  show (sortedHeap (s1.heap.push (seqObj "list" vs.toArray 0)) s1.heap.objs.size vs _).get? b = some u
  rw [sortedHeap_old (Nat.ne_of_lt lt) (by rw [size_push']; exact Nat.lt_succ_of_lt lt)]
  exact Heap.get?_push_of_some _ q
end
/-- the set of the texts xs at a -/
def TxO (w : World) (a : Addr) (xs : List Str) : HO := .ext fun h => TxS w h a xs
theorem txO_ok {P : Program} {w : World} {H : Hp} {h : Heap} {a : Addr} {xs : List Str} (R : TxS w h a xs) : ObjOk P w H h a (TxO w a xs) := by
  have R2 := R
  obtain ⟨o, _, _, _, e, _⟩ := R2.ex
  exact ⟨R, ⟨o, e⟩, fun h1 h2 p k => TxS.keep p k⟩
theorem vals_txt : ∀ {us : List Value} {xs : List Str}, StrsAre us xs → Vals (xs.map V.str) us
  | _, _, .nil => .nil
  | _, _, .cons x t r => .cons ⟨t, rfl⟩ (vals_txt r)
theorem txt_vals : ∀ {xs : List Str} {us : List Value}, Vals (xs.map V.str) us → StrsAre us xs
  | [], _, .nil => .nil
  | x :: xs, _, .cons r t => by
    obtain ⟨tk, rfl⟩ := r
    exact .cons x tk (txt_vals t)
section
variable {X : Cx}
def rSetTx (K : PySem.W.Frag) (w : World) : List V → Hp → VK → Prop := fun vs H Q => ∃ (l : Addr) (xs : List Str), vs = [V.ref l] ∧ SqL K H l (xs.map V.str) ∧ xs.length ≤ 1000 ∧ ∀ p, H p = none → Q (.ref p) (upd H p (TxO w p xs))
theorem call_setTx (hc : X.calm = true) : CallR X (.type "set") (rSetTx X.K X.w) := by
  intro pins s σ H vs us Q I r h
  obtain ⟨l, xs, rfl, hl, room, q⟩ := h
  rw [Vals.ref1 r]
  obtain ⟨its, rv, pl, hz⟩ := I.list hl
  refine tx_call (P := X.prog) (w := X.w) (I.ok.hd hc) pl.isList (xs := xs) (by simpa using txt_vals rv) (by unfold scanBound; omega) fun h' tk R k => ?_
  exact ⟨.ref s.heap.objs.size, _, I.laid (t' := tk) k (Nat.le_refl _) (txO_ok R), rfl, q _ (I.hok.fresh (Nat.le_refl _))⟩
def rSortTx (w : World) : List V → Hp → VK → Prop := fun vs H Q => ∃ (a : Addr) (xs : List Str), vs = [V.ref a] ∧ H a = some (TxO w a xs) ∧ xs.length ≤ 1000 ∧ ∀ (ys : List Str) (p : Addr), ys.Nodup → (∀ x, x ∈ ys ↔ x ∈ xs) → sortedS ys = true → H p = none → Q (.ref p) (upd H p (.lst (ys.map V.str)))
theorem call_sortTx (hc : X.calm = true) : CallR X (.builtin "sorted") (rSortTx X.w) := by
  intro pins s σ H vs us Q I r h
  obtain ⟨a, xs, rfl, ha, room, q⟩ := h
  have R : TxS X.w s.heap a xs := (I.hok a _ ha).1
  rw [Vals.ref1 r]
  refine tx_sorted R (I.ok.hd hc) (by unfold scanBound; omega) (by rw [sizeLine_eq]; omega) fun s' p out c ys k g o hp hg hout nd mem so => ?_
  have ln : ys.length ≤ 1000 := Nat.le_trans (length_le_of_nodup_of_subset ys xs nd fun x hx => (mem x).mp hx) room
  have lz : (ys.map V.str).length ≤ sizeLine := by rw [List.length_map, sizeLine_eq]; omega
  have hn : H p = none := I.hok.fresh hp
  have J : Inv X pins σ (upd H p (.lst (ys.map V.str))) { s with heap := s'.heap, gens := s'.gens, drawn := s'.drawn, toks := s'.toks } :=
    I.call (ch := []) (Un.laid k hp hn) (I.hok.laid k hp ⟨lz, out.toList, c, vals_txt hout, hg⟩) (by rw [g]; exact I.bare) (fun _ z => nomatch z)
  have e : s' = { s with heap := s'.heap, gens := s'.gens, drawn := s'.drawn, toks := s'.toks } := by
    cases s'
    cases s
    cases o
    rfl
  rw [e]
  exact ⟨.ref p, _, J, rfl, q ys p nd mem so hn⟩
end
end WR
namespace WR
open PySem PySem.Spec PyProof.Rows L2 PySem.W
/-! ### list(zip(a, b)) of two lists -/
def ZpSt (z TI TO i1 i2 l1 l2 S : Addr) (xs ys : Array Value) (i : Nat) (h : Heap) : Prop :=
  IsPair h TI (.ref i1) (.ref i2) ∧ h.IsListIter i1 l1 i ∧ h.IsListIter i2 l2 i ∧ h.IsList l1 xs ∧ h.IsList l2 ys ∧
    ((IsZip h z TI TO .none ∧ ∃ a b, IsPair h TO a b) ∨ ∃ T f oT, IsZipHeld h z TI TO T f ∧ h.get? T = some oT ∧ T ≠ z ∧ T ≠ i1 ∧ T ≠ i2 ∧ T ≠ S)
structure ZpOff (z TI TO i1 i2 l1 l2 S : Addr) : Prop where
  a1 : S ≠ z
  a2 : S ≠ TI
  a3 : S ≠ TO
  a4 : S ≠ i1
  a5 : S ≠ i2
  a6 : S ≠ l1
  a7 : S ≠ l2
theorem ZpSt.keep {z TI TO i1 i2 l1 l2 S : Addr} {xs ys : Array Value} {i : Nat} {h h' : Heap} (O : ZpOff z TI TO i1 i2 l1 l2 S) (st : ZpSt z TI TO i1 i2 l1 l2 S xs ys i h) (hk : ∀ b o, b ≠ S → h.get? b = some o → h'.get? b = some o) : ZpSt z TI TO i1 i2 l1 l2 S xs ys i h' := by
  obtain ⟨hTI, h1, h2, hl1, hl2, hz⟩ := st
  refine ⟨hk _ _ (Ne.symm O.a2) hTI, h1.at fun o e => hk _ o (Ne.symm O.a4) e, h2.at fun o e => hk _ o (Ne.symm O.a5) e, hl1.at fun o e => hk _ o (Ne.symm O.a6) e, hl2.at fun o e => hk _ o (Ne.symm O.a7) e, ?_⟩
  rcases hz with ⟨hz, a, b, hTO⟩ | ⟨T, f, oT, hz, hT, r1, r2, r3, r4⟩
  · exact .inl ⟨hk _ _ (Ne.symm O.a1) hz, a, b, hk _ _ (Ne.symm O.a3) hTO⟩
  · exact .inr ⟨T, f, oT, hk _ _ (Ne.symm O.a1) hz, hk _ _ r4 hT, r1, r2, r3, r4⟩
section
variable {prog : Program} {w : World} {A : Around} {E : Value → Shared → Prop} {s : Shared} {z TI TO i1 i2 l1 l2 S : Addr} {xs ys : Array Value} {i : Nat}
theorem zp_item {x y : Value} {Q : Option Value → Shared → Prop} (D : ZipApart z TI TO i1 i2 l1 l2) (st : ZpSt z TI TO i1 i2 l1 l2 S xs ys i s.heap) (hS : S < s.heap.objs.size) (ex : xs[i]? = some x) (ey : ys[i]? = some y)
    (hQ : ∀ h', ZpSt z TI TO i1 i2 l1 l2 S xs ys (i + 1) h' → IsPair h' s.heap.objs.size x y → h'.objs.size = s.heap.objs.size + 1 → (∀ c o, c ≠ z → c ≠ TO → c ≠ i1 → c ≠ i2 → s.heap.get? c = some o → h'.get? c = some o) → Q (some (.ref s.heap.objs.size)) { s with heap := h' }) :
    wpAny (model prog w) A (pyNext (.ref z)) Q E s := by
  obtain ⟨hTI, h1, h2, hl1, hl2, hz⟩ := st
  have lt : ∀ {c o}, s.heap.get? c = some o → s.heap.objs.size ≠ c := fun e => Nat.ne_of_gt (Heap.lt_size e)
  have n1 : s.heap.objs.size ≠ i1 := let ⟨_, e, _⟩ := h1; lt e
  have n2 : s.heap.objs.size ≠ i2 := let ⟨_, e, _⟩ := h2; lt e
  rcases hz with ⟨hz, a, b, hTO⟩ | ⟨T, f, oT, hz, hT, r1, r2, r3, r4⟩
  · refine wpAny_pyNext_zip_item D hz hTI hTO h1 h2 hl1 hl2 ex ey fun h' a1 a2 a3 a4 a5 a6 hk => ?_
    exact hQ h' ⟨hk _ _ D.TIz D.TITO D.TIi1 D.TIi2 hTI, a3, a4, hl1.at fun o e => hk _ o D.l1z D.l1TO D.l1i1 D.l1i2 e, hl2.at fun o e => hk _ o D.l2z D.l2TO D.l2i1 D.l2i2 e,
      .inr ⟨s.heap.objs.size, false, _, a1, a5, lt hz, n1, n2, Nat.ne_of_gt hS⟩⟩ a5 a6 hk
  · refine wpAny_pyNext_zip_item_held D hz hT hTI h1 h2 hl1 hl2 ex ey fun h' a1 a3 a4 a5 a6 hk => ?_
    exact hQ h' ⟨hk _ _ D.TIz D.TIi1 D.TIi2 hTI, a3, a4, hl1.at fun o e => hk _ o D.l1z D.l1i1 D.l1i2 e, hl2.at fun o e => hk _ o D.l2z D.l2i1 D.l2i2 e,
      .inr ⟨T, true, oT, a1, hk _ _ r1 r2 r3 hT, r1, r2, r3, r4⟩⟩ a5 a6 fun c o c1 _ c3 c4 e => hk c o c1 c3 c4 e
theorem zp_done {Q : Option Value → Shared → Prop} (hh : A.handled = none) (D : ZipApart z TI TO i1 i2 l1 l2) (st : ZpSt z TI TO i1 i2 l1 l2 S xs ys i s.heap) (hend : xs[i]? = none ∨ ys[i]? = none)
    (hQ : ∀ h', (∀ c o, c ≠ z → c ≠ TO → c ≠ i1 → c ≠ i2 → s.heap.get? c = some o → h'.get? c = some o) → Q none { s with heap := h' }) : wpAny (model prog w) A (pyNext (.ref z)) Q E s := by
  obtain ⟨hTI, h1, h2, hl1, hl2, hz⟩ := st
  rcases hz with ⟨hz, a, b, hTO⟩ | ⟨T, f, oT, hz, hT, r1, r2, r3, r4⟩
  · exact wpAny_pyNext_zip_end hh D hz hTI hTO h1 h2 hl1 hl2 hend fun h' hk => hQ h' hk
  · exact wpAny_pyNext_zip_end_held hh D hz hT hTI h1 h2 hl1 hl2 hend fun h' hk => hQ h' fun c o c1 _ c3 c4 e => hk c o c1 c3 c4 e
end
/-- the pairs made so far -/
structure ZpG (xs ys : Array Value) (lo : Addr) (h : Heap) (as : List Addr) : Prop where
  rise : as.Pairwise (· < ·)
  above : ∀ a ∈ as, lo < a
  pairs : ∀ (j : Nat) (a : Addr), as[j]? = some a → ∃ x y, xs[j]? = some x ∧ ys[j]? = some y ∧ IsPair h a x y
theorem ZpG.there {xs ys : Array Value} {lo : Addr} {h : Heap} {as : List Addr} (g : ZpG xs ys lo h as) {a : Addr} (ha : a ∈ as) : a < h.objs.size := by
  obtain ⟨j, hj⟩ := List.mem_iff_getElem?.mp ha
  obtain ⟨_, _, _, _, e⟩ := g.pairs j a hj
  exact Heap.lt_size e
section
variable {prog : Program} {w : World} {A : Around} {s : Shared} {R : Result → Shared → Prop} {z TI TO i1 i2 l1 l2 S : Addr} {xs ys : Array Value}
theorem zp_loop (hh : A.handled = none) (D : ZipApart z TI TO i1 i2 l1 l2) (O : ZpOff z TI TO i1 i2 l1 l2 S) (hS0 : z < S ∧ TO < S ∧ i1 < S ∧ i2 < S) (n : Nat) (hx : xs.size = n) (hy : ys.size = n) (hn : n ≤ sizeLine) (res : Value) {h₁ : Heap}
    (hR : ∀ h' tk acc c as, (∀ b o, b ≠ S → b ≠ z → b ≠ TO → b ≠ i1 → b ≠ i2 → h₁.get? b = some o → h'.get? b = some o) → h'.get? S = some { cls := .type "list", dict := none, data := .seq acc c, slots := #[] } → as.length = n → ZpG xs ys S h' as →
      acc.toList = as.map Value.ref → R (.ok (.ret res)) { s with heap := h', toks := tk }) :
    ∀ (k i : Nat) (h : Heap) (tk c : Nat) (acc : Array Value) (as : List Addr), n - i = k → i ≤ n → ZpSt z TI TO i1 i2 l1 l2 S xs ys i h → (∀ b o, b ≠ S → b ≠ z → b ≠ TO → b ≠ i1 → b ≠ i2 → h₁.get? b = some o → h.get? b = some o) →
      h.get? S = some { cls := .type "list", dict := none, data := .seq acc c, slots := #[] } → acc.toList = as.map Value.ref → as.length = i → ZpG xs ys S h as →
      codeAny (model prog w) A (.builtin "list.extend.loop" ⟨[.ref S, .ref z, res], []⟩) R { s with heap := h, toks := tk } := by
  intro k
  induction k with
  | zero =>
    intro i h tk c acc as hk hi hst hkeep hS hacc hal hG
    have hin : i = n := by omega
    refine codeAny_builtin PySem.F.entry_extend_loop ?_
    rw [Around.under_plainId PySem.F.plain_extend_loop _]
    show wpAny _ A.in1 (pyNext (.ref z) >>= _) _ _ _
    refine wpAny_bind (zp_done (s := { s with heap := h, toks := tk }) (A := A.in1) (S := S) hh D hst (.inl (Array.getElem?_eq_none (by omega))) fun h' he => ?_)
    refine wpAny_pure (hR h' tk acc c as (fun b o h0 h1 h2 h3 h4 e => he b o h1 h2 h3 h4 (hkeep b o h0 h1 h2 h3 h4 e)) (he S _ O.a1 O.a3 O.a4 O.a5 hS) (by omega) ⟨hG.rise, hG.above, fun j a hj => ?_⟩ hacc)
    obtain ⟨x, y, e1, e2, e3⟩ := hG.pairs j a hj
    have hab := hG.above a (List.mem_of_getElem? hj)
    have ne : ∀ c, c < S → a ≠ c := fun c hc e => by rw [e] at hab; exact absurd (Nat.lt_trans hab hc) (Nat.lt_irrefl _)
    exact ⟨x, y, e1, e2, he a _ (ne _ hS0.1) (ne _ hS0.2.1) (ne _ hS0.2.2.1) (ne _ hS0.2.2.2) e3⟩
  | succ k ih =>
    intro i h tk c acc as hk hi hst hkeep hS hacc hal hG
    have hlt : i < n := by omega
    have ex : xs[i]? = some (xs[i]'(by omega)) := Array.getElem?_eq_getElem (by omega)
    have ey : ys[i]? = some (ys[i]'(by omega)) := Array.getElem?_eq_getElem (by omega)
    have hsz : acc.size = i := by rw [← Array.length_toList, hacc, List.length_map, hal]
    refine codeAny_builtin PySem.F.entry_extend_loop ?_
    rw [Around.under_plainId PySem.F.plain_extend_loop _]
    show wpAny _ A.in1 (pyNext (.ref z) >>= _) _ _ _
    refine wpAny_bind (zp_item (s := { s with heap := h, toks := tk }) (S := S) D hst (Heap.lt_size hS) ex ey fun h' hst' ht hz hkp => ?_)
    dsimp only at ht hz hkp ⊢
    have hS' := hkp S _ O.a1 O.a3 O.a4 O.a5 hS
    have up : ∀ b o, b ≠ S → h'.get? b = some o → (h'.update S (Obj.mapSeq (·.push (Value.ref h.objs.size)))).get? b = some o := fun b o hb e => (Heap.get?_update_other _ _ (Ne.symm hb)).trans e
    have hSl : S < h.objs.size := Heap.lt_size hS
    show wpAny _ A.in1 (updateSeq S (·.push (Value.ref h.objs.size)) >>= _) _ _ _
    refine wpAny_bind ?_
    refine wpAny_updateSeq hS' rfl (wpAny_pure ⟨plainId_quiet PySem.F.plain_extend_loop _, ih (i + 1) _ tk _ (acc.push (Value.ref h.objs.size)) (as ++ [h.objs.size]) (by omega) hlt (hst'.keep O up)
      (fun b o h0 h1 h2 h3 h4 e => up b o h0 (hkp b o h1 h2 h3 h4 (hkeep b o h0 h1 h2 h3 h4 e))) (Heap.get?_update_self _ hS' rfl) (by rw [Array.toList_push, hacc, List.map_append]; rfl) (by rw [List.length_append, hal]; rfl) ⟨?_, ?_, ?_⟩⟩) (by rw [hsz]; omega) (by show (acc.push (Value.ref h.objs.size)).size ≤ sizeLine + 1; rw [Array.size_push, hsz]; omega)
    · refine List.pairwise_append.mpr ⟨hG.rise, List.pairwise_singleton _ _, fun a ha b hb => ?_⟩
      rw [List.mem_singleton.mp hb]
      exact hG.there ha
    · intro a ha
      rcases List.mem_append.mp ha with ha | ha
      · exact hG.above a ha
      · rw [List.mem_singleton.mp ha]; exact hSl
    · intro j b hj
      rcases Nat.lt_trichotomy j as.length with h1 | h1 | h1
      · rw [List.getElem?_append_left h1] at hj
        obtain ⟨x', y', e1, e2, e3⟩ := hG.pairs j b hj
        have hab := hG.above b (List.mem_of_getElem? hj)
        have ne : ∀ c, c < S → b ≠ c := fun c hc e => by rw [e] at hab; exact absurd (Nat.lt_trans hab hc) (Nat.lt_irrefl _)
        exact ⟨x', y', e1, e2, up b _ (Nat.ne_of_gt hab) (hkp b _ (ne _ hS0.1) (ne _ hS0.2.1) (ne _ hS0.2.2.1) (ne _ hS0.2.2.2) e3)⟩
      · subst h1
        have hb : h.objs.size = b := by simpa using hj
        subst hb
        exact ⟨_, _, by rw [hal]; exact ex, by rw [hal]; exact ey, up _ _ (Nat.ne_of_gt hSl) ht⟩
      · have hnone : (as ++ [h.objs.size])[j]? = none := List.getElem?_eq_none (by rw [List.length_append, List.length_singleton]; omega)
        rw [hnone] at hj; cases hj
theorem zip_no_len : typeLookup (.type "zip") "__len__" = pure none := by rw [typeLookup_type, builtinLookup_eq_fast]; kernel_rfl
theorem zip_no_hint : typeLookup (.type "zip") "__length_hint__" = pure none := by rw [typeLookup_type, builtinLookup_eq_fast]; kernel_rfl
theorem zp_call {E : Value → Shared → Prop} {Q : Value → Shared → Prop} (hh : A.handled = none) (D : ZipApart z TI TO i1 i2 l1 l2) (n : Nat) (hx : xs.size = n) (hy : ys.size = n) (hn : n ≤ sizeLine)
    (hz : IsZip s.heap z TI TO .none) (hTI : IsPair s.heap TI (.ref i1) (.ref i2)) (hTO : ∃ a b, IsPair s.heap TO a b) (h1 : s.heap.IsListIter i1 l1 0) (h2 : s.heap.IsListIter i2 l2 0) (hl1 : s.heap.IsList l1 xs) (hl2 : s.heap.IsList l2 ys)
    (hQ : ∀ h' tk acc c as, (∀ b o, b ≠ z → b ≠ TO → b ≠ i1 → b ≠ i2 → s.heap.get? b = some o → h'.get? b = some o) → h'.get? s.heap.objs.size = some { cls := .type "list", dict := none, data := .seq acc c, slots := #[] } → as.length = n → ZpG xs ys s.heap.objs.size h' as →
      acc.toList = as.map Value.ref → Q (.ref s.heap.objs.size) { s with heap := h', toks := tk }) :
    wpAny (model prog w) A (call (.type "list") [.ref z]) Q E s := by
  refine callType_codes (Q₁ := fun obj s₁ => obj = .ref s.heap.objs.size ∧ s₁ = { s with heap := s.heap.push { cls := .type "list", data := .seq #[] } }) PySem.F.called_list (PySem.F.typeCall_list_1 _) PySem.F.entry_list_init
    (code_list_new _ ⟨rfl, rfl⟩) fun obj s₁ h₁ => ?_
  obtain ⟨rfl, rfl⟩ := h₁
  have hS : (s.heap.push { cls := .type "list", data := .seq #[] }).get? s.heap.objs.size = some { cls := .type "list", data := .seq #[] } := Heap.get?_push_size _ rfl
  have lz : z < s.heap.objs.size := Heap.lt_size hz
  have lTI : TI < s.heap.objs.size := Heap.lt_size hTI
  have lTO : TO < s.heap.objs.size := let ⟨_, _, e⟩ := hTO; Heap.lt_size e
  have l1' : i1 < s.heap.objs.size := let ⟨_, e, _⟩ := h1; Heap.lt_size e
  have l2' : i2 < s.heap.objs.size := let ⟨_, e, _⟩ := h2; Heap.lt_size e
  have ll1 : l1 < s.heap.objs.size := let ⟨_, e, _⟩ := hl1; Heap.lt_size e
  have ll2 : l2 < s.heap.objs.size := let ⟨_, e, _⟩ := hl2; Heap.lt_size e
  have O : ZpOff z TI TO i1 i2 l1 l2 s.heap.objs.size := ⟨Nat.ne_of_gt lz, Nat.ne_of_gt lTI, Nat.ne_of_gt lTO, Nat.ne_of_gt l1', Nat.ne_of_gt l2', Nat.ne_of_gt ll1, Nat.ne_of_gt ll2⟩
  have st0 : ZpSt z TI TO i1 i2 l1 l2 s.heap.objs.size xs ys 0 s.heap := ⟨hTI, h1, h2, hl1, hl2, .inl ⟨hz, hTO⟩⟩
  refine ⟨⟨_, hS, rfl⟩, PySem.F.args_list_init_2 _ _, ?_⟩
  show wpAny _ A.in1.in1 (do let old ← Builtin.List.listItems (.ref s.heap.objs.size); Builtin.List.listUpdate (.ref s.heap.objs.size) (fun _ => #[]); letGo old.toList.reverse; Builtin.List.listExtendWith (.ref s.heap.objs.size) (.ref z) .none) _ _ _
  refine wpAny_bind ?_
  unfold Builtin.List.listItems
  refine wpAny_bind (wpAny_seqItems hS rfl (wpAny_pure ?_))
  show wpAny _ A.in1.in1 (updateSeq s.heap.objs.size (fun _ => #[]) >>= fun _ => letGo (#[] : Array Value).toList.reverse >>= fun _ => Builtin.List.listExtendWith (.ref s.heap.objs.size) (.ref z) .none) _ _ _
  refine wpAny_bind (wpAny_updateSeq hS rfl ?_)
  have hS₂ := Heap.get?_update_self (Obj.mapSeq (fun _ => (#[] : Array Value))) hS rfl
  have oth₂ : ∀ b o, b ≠ s.heap.objs.size → s.heap.get? b = some o → ((s.heap.push { cls := .type "list", data := .seq #[] }).update s.heap.objs.size (Obj.mapSeq (fun _ => (#[] : Array Value)))).get? b = some o :=
    fun b o hb e => (Heap.get?_update_other _ _ (Ne.symm hb)).trans (Heap.get?_push_of_some _ e)
  refine wpAny_bind (wpAny_letGo ?_)
  have st2 := st0.keep O oth₂
  have hz2 := oth₂ z _ (Ne.symm O.a1) hz
  unfold Builtin.List.listExtendWith
  refine wpAny_bind (wpAny_typeOf (T := "zip") ⟨_, hz2, rfl⟩ ?_)
  have hr1 : Builtin.List.listSameRef (.ref s.heap.objs.size) (.ref z) = false := by simp [Builtin.List.listSameRef, O.a1]
  have hr2 : (Value.type "zip" == Value.type "list") = false := by decide
  have hr3 : (Value.type "zip" == Value.type "tuple") = false := by decide
  simp only [hr1, hr2, hr3, Bool.or_false, Bool.false_eq_true, if_false]
  refine wpAny_bind (wpAny_pyIter_zip hz2 ?_)
  refine wpAny_bind (wpAny_holding ?_)
  unfold Builtin.List.listLengthHint
  refine wpAny_bind (wpAny_specialOf (T := "zip") ⟨_, hz2, rfl⟩ zip_no_len ?_)
  show wpAny _ A.in1.in1 (specialOf (Value.ref z) (Str.ofString "__length_hint__") >>= _) _ _ _
  refine wpAny_bind (wpAny_specialOf (T := "zip") ⟨_, hz2, rfl⟩ zip_no_hint ?_)
  refine wpAny_pure ?_
  show wpAny _ A.in1.in1 (rule "list.extend.makes-room" >>= fun _ => Builtin.List.listTouch (.ref s.heap.objs.size) >>= fun _ =>
    again (.builtin "list.extend.loop" ⟨[.ref s.heap.objs.size, .ref z, .none], []⟩)) _ _ _
  refine wpAny_bind (wpAny_rule ?_)
  refine wpAny_bind ?_
  show wpAny _ A.in1.in1 (updateSeq s.heap.objs.size (·.push .none) >>= fun _ => updateSeq s.heap.objs.size (·.pop)) _ _ _
  refine wpAny_bind (wpAny_updateSeq hS₂ rfl ?_)
  have hS₃ := Heap.get?_update_self (Obj.mapSeq (·.push Value.none)) hS₂ rfl
  refine wpAny_updateSeq (hz := by seq_fits) hS₃ rfl ?_
  have hS₄ := Heap.get?_update_self (Obj.mapSeq (·.pop)) hS₃ rfl
  have up4 : ∀ b o, b ≠ s.heap.objs.size → s.heap.get? b = some o → ((((s.heap.push { cls := .type "list", data := .seq #[] }).update s.heap.objs.size (Obj.mapSeq (fun _ => (#[] : Array Value)))).update s.heap.objs.size (Obj.mapSeq (·.push Value.none))).update s.heap.objs.size (Obj.mapSeq (·.pop))).get? b = some o :=
    fun b o hb e => (Heap.get?_update_other _ _ (Ne.symm hb)).trans ((Heap.get?_update_other _ _ (Ne.symm hb)).trans (oth₂ b o hb e))
  refine wpAny_pure ⟨plainId_quiet PySem.F.plain_extend_loop _, ?_⟩
  refine zp_loop (s := s) (A := A.in1) (h₁ := s.heap) hh D O ⟨lz, lTO, l1', l2'⟩ n hx hy hn .none (fun h' tk acc c as hk hS' hl hG hacc => ?_) n 0 _ _ _ #[] [] (by omega) (Nat.zero_le _) (st0.keep O up4) (fun b o h0 _ _ _ _ e => up4 b o h0 e) hS₄ rfl rfl
    ⟨List.Pairwise.nil, (fun _ ha => nomatch ha), (fun j a hj => by simp at hj)⟩
  exact ⟨rfl, hQ h' tk acc c as (fun b o k1 k2 k3 k4 e => hk b o (Nat.ne_of_lt (Heap.lt_size e)) k1 k2 k3 k4 e) hS' hl hG hacc⟩
end

/-- the pairs (x, y) of two lists -/
abbrev tupP (q : V × V) : HO := .tup [q.1, q.2]
def putP : Hp → List Addr → List (V × V) → Hp
  | H, a :: as, p :: kvs => putP (upd H a (tupP p)) as kvs
  | H, _, _ => H
theorem putP_off {b : Addr} : ∀ (as : List Addr) (kvs : List (V × V)) (H : Hp), b ∉ as → putP H as kvs b = H b
  | [], _, _, _ => rfl
  | _ :: _, [], _, _ => rfl
  | a :: as, p :: kvs, H, h => by
    show putP (upd H a (tupP p)) as kvs b = H b
    rw [putP_off as kvs _ (fun z => h (List.mem_cons_of_mem _ z)), upd_ne (fun z => h (by rw [z]; exact List.mem_cons_self))]
theorem putP_at : ∀ (as : List Addr) (kvs : List (V × V)) (H : Hp), as.length = kvs.length → as.Nodup → Paired (fun (t : Addr) (p : V × V) => putP H as kvs t = some (tupP p)) as kvs
  | [], [], _, _, _ => .nil
  | [], _ :: _, _, h, _ => by cases h
  | _ :: _, [], _, h, _ => by cases h
  | a :: as, p :: kvs, H, h, hn => by
    have hn' := List.nodup_cons.mp hn
    have ih := putP_at as kvs (upd H a (tupP p)) (Nat.succ.inj h) hn'.2
    refine .cons ?_ ih
    show putP (upd H a (tupP p)) as kvs a = some (tupP p)
    rw [putP_off as kvs _ hn'.1, upd_same]
theorem zp_laid {X : Cx} {pins : List (Addr × Obj)} {σ : L2.St} {H : Hp} {s : Shared} {h' : Heap} {tk : Nat} {xs ys : List V} {vs us : List Value} {acc : Array Value} {c S : Nat} {as : List Addr} (I : Inv X pins σ H s) (hz : xs.length ≤ sizeLine) (hxy : xs.length = ys.length) (rx : Vals xs vs) (ry : Vals ys us)
    (hk : ∀ b o, s.heap.get? b = some o → h'.get? b = some o) (hsS : s.heap.objs.size ≤ S) (hS : h'.get? S = some { cls := .type "list", dict := none, data := .seq acc c, slots := #[] }) (hl : as.length = xs.length) (hG : ZpG vs.toArray us.toArray S h' as) (hacc : acc.toList = as.map Value.ref) :
    ∃ H' : Hp, (∀ b o, H b = some o → H' b = some o) ∧ H S = none ∧ (∀ t ∈ as, H t = none) ∧ S ∉ as ∧ as.Nodup ∧ H' S = some (.lst (as.map V.ref)) ∧ Paired (fun (t : Addr) (q : V × V) => H' t = some (tupP q)) as (xs.zip ys) ∧ (∀ b, b ∉ as → b ≠ S → H' b = H b) ∧ Inv X pins σ H' { s with heap := h', toks := tk } := by
  have lz : (xs.zip ys).length = xs.length := by rw [List.length_zip, ← hxy, Nat.min_self]
  have hSn : S ∉ as := fun z => Nat.lt_irrefl _ (hG.above _ z)
  have nd : as.Nodup := List.Pairwise.imp (fun {a b} (h : a < b) => Nat.ne_of_lt h) hG.rise
  have new : ∀ t ∈ as, H t = none := fun t ht => I.hok.fresh (Nat.le_trans hsS (Nat.le_of_lt (hG.above t ht)))
  have newS : H S = none := I.hok.fresh hsS
  have atP := putP_at as (xs.zip ys) (upd H S (.lst (as.map V.ref))) (by omega) nd
  have off : ∀ b, b ∉ as → b ≠ S → putP (upd H S (.lst (as.map V.ref))) as (xs.zip ys) b = H b := fun b h1 h2 => by rw [putP_off as _ _ h1, upd_ne h2]
  have low : ∀ b o, s.heap.get? b = some o → b ∉ as ∧ b ≠ S := fun b o e => ⟨fun z => absurd (Heap.lt_size e) (Nat.not_lt.mpr (Nat.le_trans hsS (Nat.le_of_lt (hG.above b z)))), Nat.ne_of_lt (Nat.lt_of_lt_of_le (Heap.lt_size e) hsS)⟩
  have kp : ∀ b u, H b = some u → (putP (upd H S (.lst (as.map V.ref))) as (xs.zip ys)) b = some u := fun b u e => by
    rw [off b (fun z => by rw [new b z] at e; cases e) (fun z => by rw [z, newS] at e; cases e)]
    exact e
  have eS : putP (upd H S (.lst (as.map V.ref))) as (xs.zip ys) S = some (.lst (as.map V.ref)) := by rw [putP_off as _ _ hSn, upd_same]
  refine ⟨putP (upd H S (.lst (as.map V.ref))) as (xs.zip ys), kp, newS, new, hSn, nd, eS, atP, off, ?_⟩
  refine I.call' (ch := []) rfl ⟨fun b o q _ _ _ => hk b o q, fun b o q _ _ _ => ⟨o.slots, hk b o q⟩, fun b o q n _ => ?_, fun b o q _ => ⟨o, hk b o q⟩, fun b xs q => kp b _ q, fun b o u q => kp b _ q, fun b ps q => ⟨#[], by rw [kp b _ q]; simp⟩⟩ (fun b u q => ?_) I.bare fun b z => by simp at z
  · obtain ⟨z1, z2⟩ := low b o q
    rw [off b z1 z2]
    exact n
  · by_cases hb : b ∈ as
    · obtain ⟨j, pk, e1, e2, e3⟩ := LiI.paired_ix atP hb
      rw [e3] at q
      cases q
      obtain ⟨k, x, f1, f2, f3⟩ := hG.pairs j b e1
      obtain ⟨g1, g2⟩ := List.getElem?_zip_eq_some.mp e2
      obtain ⟨u1, q1, r1⟩ := rx.get g1
      obtain ⟨u2, q2, r2⟩ := ry.get g2
      have e4 : vs[j]? = some k := by simpa using f1
      have e5 : us[j]? = some x := by simpa using f2
      rw [q1] at e4
      rw [q2] at e5
      cases e4
      cases e5
      exact ⟨by show 2 ≤ sizeLine; decide, [k, x], .cons r1 (.cons r2 .nil), ⟨_, f3, rfl, _, rfl⟩⟩
    · by_cases hb2 : b = S
      · rw [hb2] at q ⊢
        rw [eS] at q
        cases q
        refine ⟨by rw [List.length_map]; omega, acc.toList, c, by rw [hacc]; exact LiI.vals_refs as, ?_⟩
        rw [Array.toArray_toList]
        exact hS
      · rw [off b hb hb2] at q
        exact (I.hok b u q).stay (fun d v _ y => hk d v y) (fun d y => kp d _ y) fun d xs y => kp d _ y
def tListZip (K : PySem.W.Frag) (ta : TA) : TE := fun σ H Q => ta σ H fun vs H1 => ∃ a b xs ys, vs = [.ref a, .ref b] ∧ SqL K H1 a xs ∧ SqL K H1 b ys ∧ xs.length = ys.length ∧
  ∀ (H' : Hp) (p : Addr) (ts : List Addr), (∀ b o, H1 b = some o → H' b = some o) → H1 p = none → (∀ t ∈ ts, H1 t = none) → p ∉ ts → ts.Nodup → H' p = some (.lst (ts.map V.ref)) → Paired (fun (t : Addr) (q : V × V) => H' t = some (tupP q)) ts (xs.zip ys) → (∀ b, b ∉ ts → b ≠ p → H' b = H1 b) → Q (.ref p) H'
theorem pe_listZip {X : Cx} {e e2 : Expr} {ta : TA} {p p2 q pos : Pos} (hc : X.calm = true) (hg : Gl X "list") (hm : X.mg "list" = none) (hv : bootBuiltins "list" = some (.type "list")) (hg2 : Gl X "zip") (hm2 : X.mg "zip" = none) (ha : PA X [e, e2] ta)
    (hs : starEach [.Call (.Name "zip" p2) [e, e2] [] q] X.env = (false, eval (.Call (.Name "zip" p2) [e, e2] [] q) X.env) :: starEach [] X.env := by rfl)
    (hs2 : starEach [e, e2] X.env = (false, eval e X.env) :: starEach [e2] X.env := by rfl) (hpl : (backTo q (starEach [e2] X.env)).any (·.1) = false := by rfl) :
    PE X (.Call (.Name "list" p) [.Call (.Name "zip" p2) [e, e2] [] q] [] pos) (tListZip X.K ta) := by
  refine ⟨fun pins s σ H Q I h => ?_⟩
  refine wpAny_Call_Name_kw (ld_blt I hg hm hv ?_)
  refine PyProof.Rows.callWith_type1 ?_ hs rfl
  rw [hs]
  show wpAny _ _ (spliced ((false, eval (.Call (.Name "zip" p2) [e, e2] [] q) X.env) :: backTo pos (starEach [] X.env))) _ _ s
  refine Calls.spliced_cons ?_
  refine Call_ (ld_blt I hg2 hm2 PyProof.Rows.boot_zip (PyProof.Rows.callWith_type1 (thn (ha.run q pins s σ H _ I h) fun us s1 ⟨vs, H1, I1, r1, q1⟩ => ?_) hs2 hpl))
  obtain ⟨a, b, xs, ys, ex, hqx, hqy, hxy, qq⟩ := q1
  subst ex
  cases r1 with
  | cons r rr =>
    cases rr with
    | cons r' rr =>
      cases rr
      cases r
      cases r'
      obtain ⟨its, rv, p1, hz1⟩ := I1.list hqx
      obtain ⟨its2, rv2, p22, hz2⟩ := I1.list hqy
      have l1 := rv.length
      have l2 := rv2.length
      refine call_zip_2 p1.isList p22.isList fun h' hz hTI hTO h1 h2 hsz hk => ?_
      refine Calls.spliced_nil ?_
      refine zp_call (s := { s1 with heap := h' }) (n := xs.length) (I1.ok.hd hc) (PySem.W.ktu_apart s1.heap.objs.size a b p1.lt p22.lt) (by rw [List.size_toArray]; omega) (by rw [List.size_toArray]; omega) hz1 hz hTI ⟨_, _, hTO⟩ h1 h2
        (let ⟨o, e, x⟩ := p1.isList; ⟨o, hk _ _ e, x⟩) (let ⟨o, e, x⟩ := p22.isList; ⟨o, hk _ _ e, x⟩) fun h2' tk acc c as hk2 hS hl hG hacc => ?_
      have lt : ∀ {c o} (j : Nat), s1.heap.get? c = some o → c ≠ s1.heap.objs.size + j := fun j e => Nat.ne_of_lt (Nat.lt_of_lt_of_le (Heap.lt_size e) (Nat.le_add_right _ _))
      obtain ⟨H', k1, k2, k3, k4, k5, k6, k7, k8, J⟩ := zp_laid (tk := tk) (S := h'.objs.size) I1 hz1 hxy rv rv2 (fun b o e => hk2 b o (lt 4 e) (lt 3 e) (lt 0 e) (lt 1 e) (hk b o e)) (by rw [hsz]; exact Nat.le_add_right _ _) hS hl hG hacc
      exact ⟨.ref _, H', J, rfl, qq H' _ as k1 k2 k3 k4 k5 k6 k7 k8⟩
end WR
namespace WR
open PySem PySem.Spec PyProof.Rows L2 PySem.W
/-! ### x, *xs = a list -/
def gHdTl (K : PySem.W.Frag) (t1 t2 : TG) : TG := fun v σ H Q => ∃ a x xs, v = .ref a ∧ SqL K H a (x :: xs) ∧ xs.length < 1000 ∧ ∀ D, H D = none → t1 x σ (upd H D (.lst xs)) fun σ1 H1 => t2 (.ref D) σ1 H1 Q
section
variable {X : Cx} {e1 e2 : Expr} {k : Nat} {p2 pos : Pos} {t1 t2 : TG}
theorem pg_hdTl (hc : X.calm = true) (h1 : PG X e1 t1) (h2 : PG X e2 t2) (hl : (assignEach [e1, .Starred e2 p2] X.env).length = 2 := by rfl) (hst : (assignEach [e1, .Starred e2 p2] X.env).findIdx? (·.1) = some 1 := by rfl)
    (hm : (assignEach [e1, .Starred e2 p2] X.env).map (·.2) = [assign e1 X.env, assign e2 X.env] := by rfl) :
    PG X (.Tuple [e1, .Starred e2 p2] k pos) (gHdTl X.K t1 t2) := by
  refine ⟨fun pins s σ H v u Q I r hw => ?_⟩
  obtain ⟨a, x, xs, ev, hq, hn, hw⟩ := hw
  subst ev
  cases r
  obtain ⟨its0, rv, ht, hz⟩ := I.list hq
  cases rv with
  | @cons _ u1 _ its rx rxs =>
    have lx := rxs.length
    have hl0 : s.heap.IsList a (u1 :: its).toArray := ht.isList
    have hll : a < s.heap.objs.size := ht.lt
    have hlt : a ≠ s.heap.objs.size := Nat.ne_of_lt hll
    have hsize : (u1 :: its).toArray.size = its.length + 1 := by simp
    have hh := I.ok.hd hc
    rw [assign_Tuple]
    refine wpAny_bind (wpAny_standAt ?_)
    unfold unpack
    rw [hl, hst, hm]
    refine wpAny_bind (wpAny_holding ?_)
    unfold unpackItems
    refine wpAny_bind ?_
    unfold notIterableAtAll
    refine wpAny_bind (wpAny_specialOf hl0.typeIs PySem.slot_list_iter.lookup ?_)
    refine wpAny_pure ?_
    simp only [Bool.false_eq_true, if_false]
    refine wpAny_bind (wpAny_holding (wpAny_pyIter_list hl0 ?_))
    refine wpAny_bind (wpAny_holding (kun_draw hlt 1 0 _ _ ⟨_, Heap.get?_push_size _ rfl, rfl, rfl⟩ (hl0.push _) (by rw [hsize]; omega) fun h₁ hit₁ hs₁ => ?_))
    have hl₁ : h₁.IsList a (u1 :: its).toArray := (hl0.push _).extBut hs₁.extBut hlt
    rw [Nat.zero_add] at hit₁
    have hit₁' := hit₁
    obtain ⟨oi, hoi, _⟩ := hit₁'
    have hl₁' := hl₁
    obtain ⟨ol, hol, _⟩ := hl₁'
    rw [List.drop_zero]
    have hfl : ((u1 :: its).toArray.toList.take 1) = [u1] := by simp
    rw [hfl, if_neg (show ¬ ([u1].length < 1) by simp)]
    refine wpAny_bind (wpAny_holding (kun_collect (s := { s with heap := h₁ }) (T := "list_iterator") (.inr (.inr (.inl rfl))) (Walks.list (A := X.A.in1) hh s.heap.objs.size a hlt (u1 :: its).toArray) (fun j u st => st.1.typeIs) (k := 1) (by rw [hsize]; omega) ⟨hit₁, hl₁⟩ (Heap.lt_size hoi) (Heap.lt_size hol) (fun h₂ tk hk => ?_) (by rw [hsize, sizeLine_eq]; omega)))
    have hrl : ((u1 :: its).toArray.toList.drop 1) = its := by simp
    rw [hrl]
    show wpAny _ _ (if its.length < 0 then _ else _) _ _ _
    rw [if_neg (Nat.not_lt_zero _)]
    show wpAny _ _ (newList (its.take (its.length - 0)) >>= fun d => pure ([u1] ++ [d] ++ its.drop (its.length - 0))) _ _ _
    rw [Nat.sub_zero, List.take_length, List.drop_length]
    have he : ∀ b o, s.heap.get? b = some o → h₂.get? b = some o := fun b o e => hk b o (Nat.ne_of_lt (Heap.lt_size e)) (hs₁.extBut b o (Nat.ne_of_lt (Heap.lt_size e)) (Heap.get?_push_of_some _ e))
    have I2 : Inv X pins σ H { s with heap := h₂, toks := tk } := I.kept he
    refine wpAny_bind (wpAny_newObj_type (wpAny_pure ?_) (by show its.toArray.size ≤ sizeLine; rw [List.size_toArray, sizeLine_eq]; omega))
    have I3 : Inv X pins σ (upd H h₂.objs.size (.lst xs)) { s with heap := h₂.push { cls := .type "list", data := .seq its.toArray }, toks := tk } :=
      I2.laid (t' := tk) (fun b o e => Heap.get?_push_of_some _ e) (Nat.le_refl _) (show ObjOk X.prog X.w _ _ _ (.lst xs) from ⟨by rw [sizeLine_eq]; omega, its, 0, rxs, Heap.get?_push_size _ rfl⟩)
    refine assignInOrder_cons (thn (h1.run pins _ σ _ _ _ _ I3 rx (hw _ (I2.hok.fresh (Nat.le_refl _)))) fun _ s1 ⟨σ1, H1, I1, q1⟩ => ?_)
    refine assignInOrder_cons (thn (h2.run pins s1 σ1 H1 (.ref h₂.objs.size) _ _ I1 rfl q1) fun _ s2 ⟨σ2, H2, I2', q2⟩ => assignInOrder_nil ⟨σ2, H2, I2', q2⟩)
end
end WR
namespace WR
open PySem PySem.Spec PyProof.Rows L2 PySem.W
/-! ### xs[a::2] of a list -/
def alt {α : Type} : List α → List α
  | [] => []
  | [x] => [x]
  | x :: _ :: r => x :: alt r
theorem alt_length {α : Type} : ∀ l : List α, (alt l).length = (l.length + 1) / 2
  | [] => by simp [alt]
  | [_] => by simp [alt]
  | x :: y :: r => by
    show (alt r).length + 1 = (r.length + 1 + 1 + 1) / 2
    rw [alt_length r]
    omega
theorem alt_map {α β : Type} (f : α → β) : ∀ l : List α, alt (l.map f) = (alt l).map f
  | [] => rfl
  | [_] => rfl
  | x :: y :: r => by
    show f x :: alt (r.map f) = f x :: (alt r).map f
    rw [alt_map f r]
theorem alt_vals : ∀ {xs : List V} {us : List Value}, Vals xs us → Vals (alt xs) (alt us)
  | _, _, .nil => .nil
  | _, _, .cons r .nil => .cons r .nil
  | _, _, .cons r (.cons _ t) => .cons r (alt_vals t)
theorem alt_pick {α : Type} : ∀ l : List α, (List.range ((l.length + 1) / 2)).filterMap (fun k => l[2 * k]?) = alt l
  | [] => by simp [alt]
  | [_] => by simp [alt]
  | x :: y :: r => by
    show (List.range ((r.length + 1 + 1 + 1) / 2)).filterMap (fun k => (x :: y :: r)[2 * k]?) = x :: alt r
    rw [show (r.length + 1 + 1 + 1) / 2 = (r.length + 1) / 2 + 1 by omega, List.range_succ_eq_map, List.filterMap_cons_some (f := fun k => (x :: y :: r)[2 * k]?) (a := 0) (b := x) rfl, List.filterMap_map, ← alt_pick r]
    rfl
theorem slice_alt (its : List Value) (a : Nat) : slicePick its.toArray (some (a : Int)) none (some 2) = (alt (its.drop a)).toArray := by
  unfold slicePick
  have e : sliceBounds (some (a : Int)) none (some 2) its.toArray.size = (((min a its.length : Nat) : Int), ((its.length : Nat) : Int), 2) := by
    simp only [sliceBounds, Option.getD_some, show (2 : Int) > 0 by decide, if_true, List.size_toArray]
    congr 1
    rw [if_neg (by omega)]
    omega
  rw [e]
  dsimp only
  congr 1
  have h2 : (sliceRange ((min a its.length : Nat) : Int) ((its.length : Nat) : Int) 2) = (List.range (((its.drop a).length + 1) / 2)).map (fun k => a + 2 * k) := by
    unfold sliceRange
    simp only [show (2 : Int) > 0 by decide, if_true]
    rw [List.length_drop]
    by_cases h : a < its.length
    · rw [if_pos (by omega), show min a its.length = a by omega, show (((its.length : Int) - (a : Int) + 2 - 1) / 2).toNat = (its.length - a + 1) / 2 by omega]
      refine List.map_congr_left fun k _ => ?_
      omega
    · rw [if_neg (by omega), show (its.length - a + 1) / 2 = 0 by omega]
      rfl
  rw [h2, List.filterMap_map, ← alt_pick]
  congr 1
  funext k
  show its.toArray[a + 2 * k]? = (its.drop a)[2 * k]?
  rw [List.getElem?_toArray, List.getElem?_drop]
def tAlt (K : PySem.W.Frag) (a : Nat) (te : TE) : TE := fun σ H Q => te σ H fun x H1 => ∃ p xs, x = .ref p ∧ SqL K H1 p xs ∧ ∀ q, H1 q = none → Q (.ref q) (upd H1 q (.lst (alt (xs.drop a))))
section
variable {X : Cx}
theorem pe_alt {e : Expr} {te : TE} {a k k2 : Nat} {p1 p2 p3 pos : Pos} (he : PE X e te) : PE X (.Subscript e (.Slice (some (.Constant (.int (a : Int)) k p1)) none (some (.Constant (.int 2) k2 p2)) p3) pos) (tAlt X.K a te) := by
  refine ⟨fun pins s σ H Q I h => ?_⟩
  refine Subscript_ (thn (he.run pins s σ H _ I h) fun v s1 ⟨x, H1, I1, r1, q1⟩ => ?_)
  obtain ⟨b, xs, ex, hx, q⟩ := q1
  subst ex
  cases r1
  have hlo : PO X (some (.Constant (.int (a : Int)) k p1)) (tPart (tC (.int (a : Int)))) := po_some pe_int
  have hst : PO X (some (.Constant (.int 2) k2 p2)) (tPart (tC (.int 2))) := po_some pe_int
  refine wpAny_Slice (thn (hlo.run pins s1 σ H1 (fun o H2 => o = some (a : Int) ∧ H2 = H1) I1 ⟨(a : Int), rfl, rfl, rfl⟩) fun vl s2 ⟨l, H2, I2, pl, el, e2⟩ => ?_)
  subst el e2
  refine thn (po_none.run pins s2 σ H2 (fun o H3 => o = none ∧ H3 = H2) I2 ⟨rfl, rfl⟩) fun vu s3 ⟨u, H3, I3, pu, eu, e3⟩ => ?_
  subst eu e3
  refine thn (hst.run pins s3 σ H3 (fun o H4 => o = some 2 ∧ H4 = H3) I3 ⟨2, rfl, rfl, rfl⟩) fun vs s4 ⟨o, H4, I4, ps, eo, e4⟩ => ?_
  subst eo e4
  have I5 : Inv X pins σ H4 { s4 with heap := s4.heap.push { cls := .type "slice", data := .fields #[vl, vu, vs] } } := I4.kept (t' := s4.toks) fun b ob q => Heap.get?_push_of_some _ q
  obtain ⟨its, r, ht, hz⟩ := I5.list hx
  have hlen := r.length
  show wpAny (model X.prog X.w) X.A (subscriptTail e (.Slice (some (.Constant (.int (a : Int)) k p1)) none (some (.Constant (.int 2) k2 p2)) p3) (.ref b) (.ref s4.heap.objs.size)) (EP X pins σ Q) X.xe { s4 with heap := s4.heap.push { cls := .type "slice", data := .fields #[vl, vu, vs] } }
  refine tail_any (ops := [.ref b, .ref s4.heap.objs.size]) ht.isList.typeIs (PySem.slot_list_getitem.lookup) ?_ (by with_unfolding_all rfl)
  refine wpAny_getItem_list_slice ht.isList (Heap.IsSliceOf.new _ vl vu vs) pl pu ps (by decide) ?_ (by rw [List.size_toArray]; omega)
  rw [slice_alt]
  refine ⟨.ref _, _, I5.laid (t' := s4.toks) (o := .lst (alt (xs.drop a))) (fun b ob q => Heap.get?_push_of_some _ q) (Nat.le_refl _) ?_, rfl, q _ (I5.hok.fresh (Nat.le_refl _))⟩
  refine ⟨by rw [alt_length, List.length_drop]; omega, _, 0, alt_vals (r.drop a), Heap.get?_push_size _ rfl⟩
end
/-! ### calls of a plain def by keywords in any order -/
structure Cgk (P : Program) (w : World) (K : PySem.W.Frag) (mg : Str → Option Value) (base : Heap) (k : Nat) (x : Str) (ps ks : List Str) (is : List Nat) (sp : Sp) : Prop where
  ex : ∃ (f : Addr) (fd : FuncData), FnG P w K mg base CX0 k f fd ps sp ∧ mg x = some (.ref f) ∧ PySem.W.keepIn K (.ref f) = true ∧ KBk K fd ps 0 ks is
theorem cgk_of {P : Program} {w : World} {K : PySem.W.Frag} {mg : Str → Option Value} {base : Heap} {x : Str} {st : Stmt} {f : Addr} {fd : FuncData} {N ps : List Str} {k : Nat} {sp : Sp} (ks : List Str) (is : List Nat) (F : FD K x st f fd) (hm : mg x = some (.ref f)) (S : FnScope N ps (defScope st)) (len : ∀ vs H Q E, sp vs H Q E → vs.length = ps.length)
    (b1 : ∀ (kV dc pm : Value) (an : Option Addr) (cdv ct : Value) (us : List Value), us.length = ps.length → bindArgs (PySem.W.fnOf x x (defArgs st) (defBody st) (defScope st) .none kV dc pm an cdv ct) ⟨us, []⟩ = pure (ps.zip us))
    (b2 : ∀ (kV dc pm : Value) (an : Option Addr) (cdv ct : Value) (us : List Value), us.length = ps.length → bindArgs (PySem.W.fnOf x x (defArgs st) (defBody st) (defScope st) .none kV dc pm an cdv ct) ⟨[], ps.zip us⟩ = pure (ps.zip us))
    (bk : ∀ (kV doc pm : Value) (an : Option Addr) (cdv ct : Value) (us ws : List Value), us.length = 0 → ws.length = ks.length → bindArgs (PySem.W.fnOf x x (defArgs st) (defBody st) (defScope st) .none kV doc pm an cdv ct) ⟨us, ks.zip ws⟩ = pure (ps.zip (pk is (us ++ ws))))
    (hb : ∀ (cdv : Value) (A : Around) (outer : List Env) (s : Shared) (H : Hp) (vs : List V) (Q : VK) (E : XK), NoG (A.deeper (envOfC x (defScope st) s.heap.objs.size f cdv)) → Room k (A.deeper (envOfC x (defScope st) s.heap.objs.size f cdv)) → sp vs H Q E →
      ∃ t, PSs (cxOf CX0 P w K mg base N x (defScope st) f cdv A outer s H E).nox (defBody st) t ∧ t { nx := fun _ H' => Q .non H', rt := Q } (start N vs) H) : Cg P w K mg base (k + 1) x ps sp ∧ Cgk P w K mg base (k + 1) x ps ks is sp := by
  refine ⟨cg_of F hm S len b1 b2 hb, ?_⟩
  have kb := kbk_of F 0 ks is bk
  have kp := F.kp
  obtain ⟨oc, od, dV, kV, dc, pm, an, cdv, ct, sl, rfl, lk, hcd, hD, _⟩ := F.ex
  rcases hD with ⟨_, rfl⟩ | ⟨e, _⟩
  · exact ⟨f, _, fnG_of lk hcd S len fun A outer s H vs Q E hG hr hsp => let ⟨t, h1, h2⟩ := hb cdv A outer s H vs Q E hG hr hsp; ⟨t, h1.nox, h2⟩, hm, kp, kb⟩
  · exact absurd rfl e
def tGk (n : Nat) (is : List Nat) (sp : Sp) (tk : TA) : TE := fun σ H Q => tk σ H fun zs H2 => zs.length = n ∧ sp (pk is zs) H2 Q E0
theorem pe_gk {X : Cx} {x : Str} {ps ks : List Str} {is : List Nat} {k j : Nat} {sp : Sp} {p pos : Pos} {kws : List Keyword} {tk : TA} (c : Cgk X.prog X.w X.K X.mg X.base k x ps ks is sp) (hG : NoG X.A) (hr : Room j X.A) (hk : k ≤ j) (hg : Gl X x) (hkw : PK X kws tk)
    (hall : (backToKw pos (keywordEach kws X.env)).all (·.1.isSome) = true := by rfl) (hks : (backToKw pos (keywordEach kws X.env)).filterMap (·.1) = ks := by rfl) (hdb : (x == ("__debug__" : Str)) = false := by decide)
    (hpl : ((backTo pos (starEach [] X.env)).any (·.1) || (backToKw pos (keywordEach kws X.env)).any (·.1.isNone)) = false := by rfl) : PE X (.Call (.Name x p) [] kws pos) (tGk ks.length is sp tk) := by
  obtain ⟨f, fd, F, hm, kp, hb⟩ := c.ex
  refine ⟨fun pins s σ H Q I h => wpAny_Call_Name_kw (ld_glob I hg hm ?_ hdb)⟩
  refine PySem.W.callWith_KW0 (h₀ := X.base) I.ok.mod.kin kp hall (thn (hkw.run pos pins s σ H _ I h) fun ws s2 ⟨zs, H2, I2, rz, l2, q2⟩ => ⟨I2.kIn, ?_⟩) hpl
  rw [hks]
  have rr := hb.rel (us := []) (vs := []) .nil rz
  refine wpAny_call (codeAny_mono (run_g F hG (hr.mono hk) (fun _ => hb.to s2 [] ws I2.kIn rfl (rz.length.symm.trans l2)) I2 rr q2) fun r s' hq => ?_)
  cases r with
  | error e => exact hq
  | ok fl => cases fl with
    | ret u => exact hq
    | next => exact hq.elim
    | brk => exact hq.elim
    | cont => exact hq.elim
end WR
namespace WR
open PySem PySem.Spec PyProof.Rows L2 PySem.W
/-! ### a if c else b, as a test -/
def tIfT (t ta tb : TT) : TT := fun σ H Q => t σ H fun c H1 => if c = true then ta σ H1 Q else tb σ H1 Q
theorem pt_ifExp {X : Cx} {c a b : Expr} {pos : Pos} {tc ta tb : TT} (hc : PT X c tc) (ha : PT X a ta) (hb : PT X b tb) : PT X (.IfExp c a b pos) (tIfT tc ta tb) := by
  refine ⟨fun pins s σ H Q I h => ?_⟩
  have e : isTrue (.IfExp c a b pos) X.env (eval (.IfExp c a b pos) X.env) = (do if ← isTrue c X.env (eval c X.env) then isTrue a X.env (eval a X.env) else isTrue b X.env (eval b X.env)) := rfl
  rw [e]
  refine wpAny_bind (thn (hc.run pins s σ H _ I h) fun d s1 ⟨H1, I1, q1⟩ => ?_)
  cases d with
  | true => exact ha.run pins s1 σ H1 Q I1 q1
  | false => exact hb.run pins s1 σ H1 Q I1 q1

/-! ### xs.extend(a tuple) -/
theorem wp_extendT {P : Program} {w : World} {A : Around} {E : Value → Shared → Prop} {Q : Fin → Shared → Prop} {s : Shared} {l b : Addr} {items items2 : Array Value} {n : Nat} (hl : s.heap.get? l = some { cls := .type "list", dict := none, data := .seq items n, slots := #[] }) (hb : IsTup s.heap b items2)
    (hc : ¬ (!items.isEmpty && Builtin.List.listTooLong (items.size + items2.size)) = true) (hs : items.size + items2.size ≤ sizeLine)
    (h : Q (.done (.ret .none)) { s with heap := s.heap.update l (Obj.mapSeq fun x => x ++ items2) }) : wpAny (model P w) A (Builtin.«list.extend» ⟨[.ref l, .ref b], []⟩) Q E s := by
  obtain ⟨o, ho, hcls, n2, hd⟩ := id hb
  have hT : s.TypeIs (.ref b) "tuple" := ⟨o, ho, hcls⟩
  show wpAny _ _ (Builtin.List.listExtendWith (.ref l) (.ref b) .none) _ _ s
  unfold Builtin.List.listExtendWith
  refine wpAny_bind (wpAny_typeOf hT ?_)
  have h1 : (Value.type "tuple" == Value.type "tuple") = true := by decide
  simp only [h1, Bool.or_true, if_true]
  unfold Builtin.List.listItems
  refine wpAny_bind (wpAny_bind (wpAny_seqItems ho hd (wpAny_pure ?_)))
  refine wpAny_bind (wpAny_bind (wpAny_seqItems hl rfl (wpAny_pure ?_)))
  rw [if_neg hc]
  show wpAny _ _ (updateSeq l (· ++ items2) >>= fun _ => ret .none) _ _ s
  exact wpAny_bind (wpAny_updateSeq hl rfl (wpAny_pure h) (by omega) (by rw [Array.size_append]; omega))
def rExtendT (K : PySem.W.Frag) : V → List V → Hp → VK → Prop := fun x vs H Q => ∃ l b xs zs, x = .ref l ∧ vs = [.ref b] ∧ H l = some (.lst xs) ∧ SqT K H b zs ∧ xs.length + zs.length ≤ sizeLine ∧ Q .non (upd H l (.lst (xs ++ zs)))
theorem mt_extendT {X : Cx} : MtM X "list.extend" (rExtendT X.K) := by
  intro pins s σ H x vs v us Q I rx rv h
  obtain ⟨l, b, xs, zs, rfl, rfl, hH, hB, hz, q⟩ := h
  cases rx
  obtain ⟨u, rfl, ru⟩ := rv.one
  cases ru
  obtain ⟨z, its, n, r, hl, e⟩ := I.lstM hH
  obtain ⟨its2, r2, e2, z2⟩ := I.tuple hB
  have hl2 := r2.length
  have hsz : its.toArray.size + its2.toArray.size ≤ sizeLine := by rw [List.size_toArray, List.size_toArray]; omega
  have hlong : ¬ (!its.toArray.isEmpty && Builtin.List.listTooLong (its.toArray.size + its2.toArray.size)) = true := by
    rw [notLongL hsz, Bool.and_false]
    exact Bool.false_ne_true
  refine wpAny_call_entry F.slot_list_extend ⟨_, e, rfl⟩ F.entry_list_extend (wp_extendT e e2 hlong hsz ⟨_, rfl, ?_⟩) (F.args_list_extend_2 _ _)
  refine ⟨.non, _, I.lset (its' := its ++ its2) hH e (by simp) (r.append r2) ?_, rfl, q⟩
  rw [List.length_append]
  omega
end WR
namespace W15
open PySem PySem.Spec PyProof.Rows L2 WR LamX
/-! ### the text by places -/
def top (i : Nat) : Stmt := PySem.Challenge.pw_worneven_k15_whole_sheets_and_page_texts.main.body.getD i (.Pass ⟨0, 0, 0, 0⟩)
abbrev s_is_integer : Stmt := top 10
abbrev s_is_from : Stmt := top 11
abbrev s_has_only : Stmt := top 12
abbrev s_number_in : Stmt := top 13
abbrev s_are_signs : Stmt := top 14
abbrev s_is_page_text : Stmt := top 15
abbrev s_is_key : Stmt := top 16
abbrev s_is_value : Stmt := top 17
abbrev s_is_child : Stmt := top 20
abbrev s_is_sheet : Stmt := top 21
abbrev s_sheet_of : Stmt := top 22
abbrev s_sheet_in : Stmt := top 23
abbrev s_written : Stmt := top 24
abbrev s_law_pot : Stmt := top 26
abbrev s_law_take : Stmt := top 27
abbrev s_law_of : Stmt := top 28
abbrev s_law_cells : Stmt := top 29
abbrev s_law_map_is_key : Stmt := top 30
abbrev s_law_map_is_value : Stmt := top 31
abbrev s_law_map_number : Stmt := top 32
abbrev s_law_map_sheet : Stmt := top 33
abbrev s_law_map_key_drawn : Stmt := top 34
abbrev s_law_map_value_drawn : Stmt := top 35
abbrev s_law_sheet : Stmt := top 36
abbrev s_law_text : Stmt := top 37
abbrev s_law_read : Stmt := top 38
abbrev s_law_near : Stmt := top 39
abbrev s_law_right : Stmt := top 40
abbrev s_law : Stmt := top 41
/-! ### names by slot -/
theorem sc_is_integer : FnScope ["value"] ["value"] (defScope s_is_integer) := ⟨rfl, rfl, rfl, by decide +kernel, rfl, by decide +kernel, by decide +kernel⟩
theorem sc_is_from : FnScope ["value", "low"] ["value", "low"] (defScope s_is_from) := ⟨rfl, rfl, rfl, by decide +kernel, rfl, by decide +kernel, by decide +kernel⟩
theorem sc_has_only : FnScope ["text", "signs"] ["text", "signs"] (defScope s_has_only) := ⟨rfl, rfl, rfl, by decide +kernel, rfl, by decide +kernel, by decide +kernel⟩
theorem sc_number_in : FnScope ["word"] ["word"] (defScope s_number_in) := ⟨rfl, rfl, rfl, by decide +kernel, rfl, by decide +kernel, by decide +kernel⟩
theorem sc_are_signs : FnScope ["value", "least", "most"] ["value", "least", "most"] (defScope s_are_signs) := ⟨rfl, rfl, rfl, by decide +kernel, rfl, by decide +kernel, by decide +kernel⟩
theorem sc_is_page_text : FnScope ["value"] ["value"] (defScope s_is_page_text) := ⟨rfl, rfl, rfl, by decide +kernel, rfl, by decide +kernel, by decide +kernel⟩
theorem sc_is_key : FnScope ["value"] ["value"] (defScope s_is_key) := ⟨rfl, rfl, rfl, by decide +kernel, rfl, by decide +kernel, by decide +kernel⟩
theorem sc_is_value : FnScope ["value"] ["value"] (defScope s_is_value) := ⟨rfl, rfl, rfl, by decide +kernel, rfl, by decide +kernel, by decide +kernel⟩
theorem sc_is_child : FnScope ["value"] ["value"] (defScope s_is_child) := ⟨rfl, rfl, rfl, by decide +kernel, rfl, by decide +kernel, by decide +kernel⟩
theorem sc_is_sheet : FnScope ["value", "kind", "entries", "least", "last", "entry"] ["value"] (defScope s_is_sheet) := ⟨rfl, rfl, rfl, by decide +kernel, rfl, by decide +kernel, by decide +kernel⟩
theorem sc_sheet_of : FnScope ["text", "first", "words", "pairs", "sheet", "key", "word"] ["text"] (defScope s_sheet_of) := ⟨rfl, rfl, rfl, by decide +kernel, rfl, by decide +kernel, by decide +kernel⟩
theorem sc_sheet_in : FnScope ["text"] ["text"] (defScope s_sheet_in) := ⟨rfl, rfl, rfl, by decide +kernel, rfl, by decide +kernel, by decide +kernel⟩
theorem sc_written : FnScope ["sheet", "places", "kind", "entries", "words", "key", "what", "place"] ["sheet", "places"] (defScope s_written) := ⟨rfl, rfl, rfl, by decide +kernel, rfl, by decide +kernel, by decide +kernel⟩
theorem sc_law_pot : FnScope ["script", "place", "cell", "own", "small"] ["script", "place"] (defScope s_law_pot) := ⟨rfl, rfl, rfl, by decide +kernel, rfl, by decide +kernel, by decide +kernel⟩
theorem sc_law_take : FnScope ["pot", "upto", "digit", "prime", "blend"] ["pot", "upto"] (defScope s_law_take) := ⟨rfl, rfl, rfl, by decide +kernel, rfl, by decide +kernel, by decide +kernel⟩
theorem sc_law_of : FnScope ["pot", "some"] ["pot", "some"] (defScope s_law_of) := ⟨rfl, rfl, rfl, by decide +kernel, rfl, by decide +kernel, by decide +kernel⟩
theorem sc_law_cells : FnScope ["script", "most"] ["script", "most"] (defScope s_law_cells) := ⟨rfl, rfl, rfl, by decide +kernel, rfl, by decide +kernel, by decide +kernel⟩
theorem sc_law_map_is_key : FnScope ["value", "sign"] ["value"] (defScope s_law_map_is_key) := ⟨rfl, rfl, rfl, by decide +kernel, rfl, by decide +kernel, by decide +kernel⟩
theorem sc_law_map_is_value : FnScope ["value", "sign"] ["value"] (defScope s_law_map_is_value) := ⟨rfl, rfl, rfl, by decide +kernel, rfl, by decide +kernel, by decide +kernel⟩
theorem sc_law_map_number : FnScope ["word", "sign"] ["word"] (defScope s_law_map_number) := ⟨rfl, rfl, rfl, by decide +kernel, rfl, by decide +kernel, by decide +kernel⟩
theorem sc_law_map_sheet : FnScope ["text", "words", "kind", "keys", "told", "word", "key", "one"] ["text"] (defScope s_law_map_sheet) := ⟨rfl, rfl, rfl, by decide +kernel, rfl, by decide +kernel, by decide +kernel⟩
theorem sc_law_map_key_drawn : FnScope ["pot", "way"] ["pot"] (defScope s_law_map_key_drawn) := ⟨rfl, rfl, rfl, by decide +kernel, rfl, by decide +kernel, by decide +kernel⟩
theorem sc_law_map_value_drawn : FnScope ["pot", "some"] ["pot"] (defScope s_law_map_value_drawn) := ⟨rfl, rfl, rfl, by decide +kernel, rfl, by decide +kernel, by decide +kernel⟩
theorem sc_law_sheet : FnScope ["pot", "kind", "keys", "found", "key", "way", "child", "lap"] ["pot"] (defScope s_law_sheet) := ⟨rfl, rfl, rfl, by decide +kernel, rfl, by decide +kernel, by decide +kernel⟩
theorem sc_law_text : FnScope ["sheet", "places", "words", "key", "told", "place"] ["sheet", "places"] (defScope s_law_text) := ⟨rfl, rfl, rfl, by decide +kernel, rfl, by decide +kernel, by decide +kernel⟩
theorem sc_law_read : FnScope ["text", "told"] ["text"] (defScope s_law_read) := ⟨rfl, rfl, rfl, by decide +kernel, rfl, by decide +kernel, by decide +kernel⟩
theorem sc_law_near : FnScope ["pot", "text", "words", "found", "lap", "at", "more", "rows", "one"] ["pot", "text"] (defScope s_law_near) := ⟨rfl, rfl, rfl, by decide +kernel, rfl, by decide +kernel, by decide +kernel⟩
theorem sc_law_right : FnScope ["pot", "lap", "sheet", "places", "due", "text", "child"] ["pot"] (defScope s_law_right) := ⟨rfl, rfl, rfl, by decide +kernel, rfl, by decide +kernel, by decide +kernel⟩
theorem sc_law : FnScope ["script", "place"] ["script"] (defScope s_law) := ⟨rfl, rfl, rfl, by decide +kernel, rfl, by decide +kernel, by decide +kernel⟩
/-! ### what the walk asks of the top -/
structure Txt (K : PySem.W.Frag) (w : World) (mg : Str → Option Value) : Prop where
  f_isinstance : mg "isinstance" = none
  f_int : mg "int" = none
  f_bool : mg "bool" = none
  f_str : mg "str" = none
  f_len : mg "len" = none
  f_tuple : mg "tuple" = none
  f_list : mg "list" = none
  f_zip : mg "zip" = none
  f_all : mg "all" = none
  f_abs : mg "abs" = none
  f_sum : mg "sum" = none
  f_range : mg "range" = none
  f_max : mg "max" = none
  f_min : mg "min" = none
  f_sorted : mg "sorted" = none
  f_set : mg "set" = none
  f_repr : mg "repr" = none
  g_FIGURES : ∃ u, mg "FIGURES" = some u ∧ RelV (.str (SX.S [48, 49, 50, 51, 52, 53, 54, 55, 56, 57])) u
  g_SIGNS : ∃ u, mg "SIGNS" = some u ∧ RelV (.str (SX.S [32, 33, 34, 35, 36, 32, 38, 39, 40, 41, 42, 43, 44, 45, 46, 47, 48, 49, 50, 51, 52, 53, 54, 55, 56, 57, 58, 59, 60, 61, 62, 63, 64, 65, 66, 67, 68, 69, 70, 71, 72, 73, 74, 75, 76, 77, 78, 79, 80, 81, 82, 83, 84, 85, 86, 87, 88, 89, 90, 91, 92, 93, 94, 95, 96, 97, 98, 99, 100, 101, 102, 103, 104, 105, 106, 107, 108, 109, 110, 111, 112, 113, 114, 115, 116, 117, 118, 119, 120, 121, 122, 123, 124, 125, 126])) u
  g_MOST_PAGE_TEXT : ∃ u, mg "MOST_PAGE_TEXT" = some u ∧ RelV (.int 113) u
  g_MOST_KEY : ∃ u, mg "MOST_KEY" = some u ∧ RelV (.int 13) u
  g_MOST_ENTRIES : ∃ u, mg "MOST_ENTRIES" = some u ∧ RelV (.int 4) u
def toldV : WM.Told → List V
  | .empty => [.str (Str.ofString "empty")]
  | .whole t => [.str (Str.ofString "whole"), .str (S t)]
  | .mended t i => [.str (Str.ofString "mended"), .str (S t), .int (i : Int)]
  | .torn => [.str (Str.ofString "torn")]
/-- a pot on the heap, with m takes to come at least -/
def PotAt (H : Hp) (a : Addr) (m : Nat) : Prop := ∃ own small cnt : Int, 0 ≤ own ∧ own < 10 ^ 300 ∧ 0 ≤ small ∧ small < 2 ^ 61 ∧ 0 ≤ cnt ∧ cnt + m ≤ 10000 ∧ H a = some (.lst [.int own, .int small, .int cnt])
theorem PotAt.mono {H : Hp} {a : Addr} {m n : Nat} (h : PotAt H a m) (l : n ≤ m) : PotAt H a n := by
  obtain ⟨o, s, c, h1, h2, h3, h4, h5, h6, h7⟩ := h
  exact ⟨o, s, c, h1, h2, h3, h4, h5, by omega, h7⟩
theorem PotAt.same {H H' : Hp} {a : Addr} {m : Nat} (h : PotAt H a m) (s : Same H H') : PotAt H' a m := by
  obtain ⟨o, t, c, h1, h2, h3, h4, h5, h6, h7⟩ := h
  exact ⟨o, t, c, h1, h2, h3, h4, h5, h6, s _ _ h7⟩
theorem PotAt.ne {H : Hp} {a p : Addr} {m : Nat} (h : PotAt H a m) (q : H p = none) : p ≠ a := by
  obtain ⟨o, t, c, h1, h2, h3, h4, h5, h6, h7⟩ := h
  rintro rfl
  rw [h7] at q
  exact nomatch q
section
variable {P : Program} {w : World} {K : PySem.W.Frag} {mg : Str → Option Value} {base : Heap}
theorem But.putn {a p : Addr} {H H' : Hp} {o : HO} (e : But a H H') (h : H p = none) : But a H (upd H' p o) := fun b u n q => by rw [upd_ne (ne_of_none q h)]; exact e b u n q
theorem PotAt.new {H : Hp} {a p : Addr} {m : Nat} {o : HO} (h : PotAt H a m) (q : H p = none) : PotAt (upd H p o) a m := h.same (Same.new q)
theorem PotAt.put {H : Hp} {a p : Addr} {m : Nat} {o : HO} (h : PotAt H a m) (q : p ≠ a) : PotAt (upd H p o) a m := by
  obtain ⟨o', t, c, h1, h2, h3, h4, h5, h6, h7⟩ := h
  exact ⟨o', t, c, h1, h2, h3, h4, h5, h6, by rw [upd_ne (Ne.symm q)]; exact h7⟩
theorem lc_pot {J : It} {n : Nat} {G : Hp → Prop} {Y : Nat → Hp → V → Hp → Prop} (w : Walk J n G Y) {g : TG} {te : TE} {vs : List Nat} {σ : L2.St} {H1 : Hp} {D : Addr} {Qd : Hp → Prop} (a : Addr) (m c : Nat) (P : V → Prop)
    (hD : H1 D = none) (hp : PotAt H1 a (m + c * n)) (hn : n ≤ 1000000) (hG : ∀ H, But a H1 H → G H)
    (hs : ∀ i x H H' (N : V → Hp → Prop) k, i < n → But a H1 H → PotAt H a (k + c) → Y i H x H' → (∀ y H4, But a H H4 → P y → PotAt H4 a k → N y H4) → g x (wipe σ vs) H' fun σ2 H2 => wipe σ2 vs = wipe σ vs ∧ te σ2 H2 N)
    (hg : ∀ x σ H (A B : L2.St → Hp → Prop), (∀ s h, A s h → B s h) → g x σ H A → g x σ H B)
    (hd : ∀ H ys, But a H1 H → PotAt H a m → ys.length = n → (∀ y ∈ ys, P y) → H D = some (.lst ys) → Qd H) :
    ∃ W : Nat → Nat → Hp → Prop, (∃ m, W 0 m (upd H1 D (.lst []))) ∧ ∀ i m H, W i m H →
      (J.stop i H ∧ Qd H) ∨ (J.go i H ∧ ∃ Nx : Hp → Prop, (∀ H', Nx H' → ∃ m', m' < m ∧ W (i + 1) m' H') ∧ ∀ x H', J.yld i H x H' → g x (wipe σ vs) H' fun σ2 H2 => wipe σ2 vs = wipe σ vs ∧ tYes σ2 H2 fun b H3 =>
        if b = true then te σ2 H3 fun y H4 => ∃ acc, H4 D = some (.lst acc) ∧ acc.length < sizeLine ∧ Nx (upd H4 D (.lst (acc ++ [y]))) else Nx H3) := by
  have hDa : D ≠ a := hp.ne hD
  refine lc_it w (fun i H => But a H1 H ∧ PotAt H a (m + c * (n - i)) ∧ ∃ ys, ys.length = i ∧ (∀ y ∈ ys, P y) ∧ H D = some (.lst ys)) ⟨But.new hD, hp.new hD, [], rfl, (fun y h => nomatch h), upd_same⟩ (fun i H _ p => hG H p.1) (fun i x H H' hi p hy => ?_) fun H p => ?_
  · obtain ⟨p1, p2, ys, p3, p4, p5⟩ := p
    have e : m + c * (n - i) = (m + c * (n - (i + 1))) + c := by
      rw [show n - i = (n - (i + 1)) + 1 by omega, Nat.mul_add, Nat.mul_one, Nat.add_assoc]
    rw [e] at p2
    refine hg _ _ _ _ _ (fun _ _ q => ⟨q.1, yes_of q.2⟩) (hs i x H H' _ _ hi p1 p2 hy fun y H4 b py pt => ⟨ys, b _ _ hDa p5, by rw [sizeLine_eq]; omega, But.putn (p1.trans b) hD, pt.put hDa, ys ++ [y], by simp [p3], fun z hz => ?_, upd_same⟩)
    rcases List.mem_append.mp hz with h | h
    · exact p4 z h
    · rw [List.mem_singleton.mp h]; exact py
  · obtain ⟨p1, p2, ys, p3, p4, p5⟩ := p
    rw [Nat.sub_self, Nat.mul_zero, Nat.add_zero] at p2
    exact hd H ys p1 p2 p3 p4 p5
theorem unV {p : Nat → Prop} : ∀ ys : List V, (∀ y ∈ ys, ∃ c, y = V.str (S [c]) ∧ p c) → ∃ rs : List Nat, ys = rs.map (fun c => V.str (S [c])) ∧ rs.length = ys.length ∧ ∀ c ∈ rs, p c
  | [], _ => ⟨[], rfl, rfl, (fun c h => nomatch h)⟩
  | y :: ys, h => by
    obtain ⟨c, e, hc⟩ := h y List.mem_cons_self
    obtain ⟨rs, e2, e3, h2⟩ := unV ys fun z hz => h z (List.mem_cons_of_mem _ hz)
    refine ⟨c :: rs, by rw [e, e2]; rfl, by simp [e3], fun d hd => ?_⟩
    rcases List.mem_cons.mp hd with q | q
    · rw [q]; exact hc
    · exact h2 d q
def toldD : WM.Told → PyData
  | .empty => .tuple [.str (Str.ofString "empty")]
  | .whole t => .tuple [.str (Str.ofString "whole"), .str (S t)]
  | .mended t i => .tuple [.str (Str.ofString "mended"), .str (S t), .int (i : Int)]
  | .torn => .tuple [.str (Str.ofString "torn")]
theorem told_dp {H : Hp} {a : Addr} {x : WM.Told} (h : H a = some (.tup (toldV x))) : Dp K H (.ref a) (toldD x) := by
  cases x with
  | empty => exact .tup (SqT.of h) (.cons (.str _) .nil)
  | whole t => exact .tup (SqT.of h) (.cons (.str _) (.cons (.str _) .nil))
  | mended t i => exact .tup (SqT.of h) (.cons (.str _) (.cons (.str _) (.cons (.int _) .nil)))
  | torn => exact .tup (SqT.of h) (.cons (.str _) .nil)
theorem told_depth (x : WM.Told) : (toldD x).depth ≤ 40 := by
  cases x <;> exact of_decide_eq_true rfl
theorem tupleText_le (t : Str) (ts : List Str) : (tupleText (t :: ts)).length ≤ piled (t :: ts) + 1 := by
  have h := join_length_add (t :: ts) (by simp)
  unfold tupleText
  rw [strLen_append, strLen_append]
  have e1 : (("(" : String) : Str).length = 1 := rfl
  have e2 : ((if (t :: ts).length == 1 then ",)" else ")" : String) : Str).length ≤ 2 := by split <;> decide
  omega
theorem repr_S {t : List Nat} (h : WM.IsText t) : (reprText (S t)).length ≤ 1132 := by
  have := StrLaws.reprText_len (S t) (fun c hc => by
    rw [S_cps] at hc
    have := WM.okc_lt (h.ok c hc)
    have : (127 : Nat) ≤ 16 ^ 8 := by decide
    omega)
  rw [S_len t] at this
  have := h.len
  omega
theorem ne_self (x : V) : (!decide (x = x)) = false := by simp
/-- tellings of texts, with small places -/
def Fine : WM.Told → Prop
  | .empty => True
  | .torn => True
  | .whole t => WM.IsText t
  | .mended t i => WM.IsText t ∧ i < 256
theorem told_showable {x : WM.Told} (h : Fine x) : (toldD x).showable = true := by
  cases x with
  | empty => rfl
  | whole t => rfl
  | mended t i =>
    show (true && (true && (decide ((i : Int).natAbs.log2 < 1920) && true))) = true
    have : (i : Int).natAbs.log2 < 1920 := by
      have h1 : (i : Int).natAbs = i := by omega
      rw [h1]
      have : i.log2 < 8 ∨ i = 0 := by
        by_cases z : i = 0
        · exact .inr z
        · exact .inl ((Nat.log2_lt z).mpr h.2)
      rcases this with q | rfl
      · omega
      · decide
    rw [decide_eq_true this]
    rfl
  | torn => rfl
theorem told_shown {x : WM.Told} (h : Fine x) : (toldD x).shown.length ≤ sizeLine := by
  rw [sizeLine_eq]
  cases x with
  | empty => decide +kernel
  | whole t =>
    refine Nat.le_trans (tupleText_le _ _) ?_
    have h1 := repr_S h
    have h2 : (reprText (Str.ofString "whole")).length ≤ 20 := by decide +kernel
    show piled [reprText (Str.ofString "whole"), reprText (S t)] + 1 ≤ _
    simp only [piled_cons, piled_nil]
    omega
  | mended t i =>
    refine Nat.le_trans (tupleText_le _ _) ?_
    have h1 := repr_S h.1
    have h2 : (reprText (Str.ofString "mended")).length ≤ 20 := by decide +kernel
    have h3 : ((PyData.int (i : Int)).shown).length ≤ 20 := by
      have : ∀ j : Nat, j < 256 → ((PyData.int (j : Int)).shown).length ≤ 20 := by decide +kernel
      exact this i h.2
    show piled [reprText (Str.ofString "mended"), reprText (S t), (PyData.int (i : Int)).shown] + 1 ≤ _
    simp only [piled_cons, piled_nil]
    omega
  | torn => decide +kernel
end
def lcond (c : List Nat) : Prop := WM.cut c 229 232 = WM.flip (WM.cut c 226 229) ∧ WM.cut c 237 242 = WM.flip (WM.cut c 232 237)
instance (c : List Nat) : Decidable (lcond c) := by unfold lcond; infer_instance
def LSIGNS : List Nat := [32, 33, 34, 35, 36, 38, 39, 40, 41, 42, 43, 44, 45, 46, 47, 48, 49, 50, 51, 52, 53, 54, 55, 56, 57, 58, 59, 60, 61, 62, 63, 64, 65, 66, 67, 68, 69, 70, 71, 72, 73, 74, 75, 76, 77, 78, 79, 80, 81, 82, 83, 84, 85, 86, 87, 88, 89, 90, 91, 92, 93, 94, 95, 96, 97, 98, 99, 100, 101, 102, 103, 104, 105, 106, 107, 108, 109, 110, 111, 112, 113, 114, 115, 116, 117, 118, 119, 120, 121, 122, 123, 124, 125, 126]
def KNOWN : List (Key × V) := (LSIGNS ++ [10]).map fun n : Nat => (Sum.inl (n : Int), V.str (S [n]))
def SIGNL : List Nat := [32, 33, 34, 35, 36, 32, 38, 39, 40, 41, 42, 43, 44, 45, 46, 47, 48, 49, 50, 51, 52, 53, 54, 55, 56, 57, 58, 59, 60, 61, 62, 63, 64, 65, 66, 67, 68, 69, 70, 71, 72, 73, 74, 75, 76, 77, 78, 79, 80, 81, 82, 83, 84, 85, 86, 87, 88, 89, 90, 91, 92, 93, 94, 95, 96, 97, 98, 99, 100, 101, 102, 103, 104, 105, 106, 107, 108, 109, 110, 111, 112, 113, 114, 115, 116, 117, 118, 119, 120, 121, 122, 123, 124, 125, 126]

section
variable {P : Program} {w : World} {K : PySem.W.Frag} {mg : Str → Option Value} {base : Heap}
theorem mem_signl (c : Nat) : c ∈ SIGNL ++ [10] ↔ WM.okc c := by
  have e : WM.okc c ↔ (c = 10 ∨ (32 ≤ c ∧ c ≤ 126 ∧ c ≠ 37)) := by
    unfold WM.okc
    omega
  rw [e]
  by_cases h : c < 127
  · have : ∀ c, c < 127 → (c ∈ SIGNL ++ [10] ↔ (c = 10 ∨ (32 ≤ c ∧ c ≤ 126 ∧ c ≠ 37))) := by decide +kernel
    exact this c h
  · have h1 : ∀ z ∈ SIGNL ++ [10], z < 127 := by decide +kernel
    exact ⟨fun q => absurd (h1 c q) h, fun q => by omega⟩
theorem all_signl (l : List Nat) : decide (∀ c ∈ l, c ∈ SIGNL ++ [10]) = decide (∀ c ∈ l, WM.okc c) := by
  rw [Bool.eq_iff_iff, decide_eq_true_iff, decide_eq_true_iff]
  exact forall_congr' fun c => imp_congr_right fun _ => mem_signl c
/-! ### words and texts of pages -/
theorem sqT_same {K : PySem.W.Frag} {H H2 : Hp} {a : Addr} {xs : List V} (s : Same H H2) (h : SqT K H a xs) : SqT K H2 a xs := ext_t (Same.ext s) h
theorem sqL_same {K : PySem.W.Frag} {H H2 : Hp} {a : Addr} {xs : List V} (s : Same H H2) (h : SqL K H a xs) : SqL K H2 a xs := ext_l (Same.ext s) h
def J10 : List (List Nat) → List Nat
  | [] => []
  | [w] => w
  | w :: v :: r => w ++ 10 :: J10 (v :: r)
theorem join_J10 : ∀ ws : List (List Nat), Str.join (S [10]) (ws.map S) = S (J10 ws)
  | [] => rfl
  | [w] => rfl
  | w :: v :: r => by
    show S w ++ S [10] ++ Str.join (S [10]) ((v :: r).map S) = S (w ++ 10 :: J10 (v :: r))
    rw [join_J10 (v :: r), S_app, S_app, List.append_assoc]
    rfl
theorem J10_cut {c : Nat} : ∀ {w v : List Nat} {a b : List Nat}, c ∉ w → c ∉ v → w ++ c :: a = v ++ c :: b → w = v ∧ a = b
  | [], [], a, b, _, _, e => ⟨rfl, (List.cons.inj e).2⟩
  | [], y :: v, a, b, _, hv, e => absurd (show c ∈ y :: v by rw [(List.cons.inj e).1]; exact List.mem_cons_self) hv
  | x :: w, [], a, b, hw, _, e => absurd (show c ∈ x :: w by rw [(List.cons.inj e).1]; exact List.mem_cons_self) hw
  | x :: w, y :: v, a, b, hw, hv, e => by
    obtain ⟨h1, h2⟩ := List.cons.inj e
    obtain ⟨h3, h4⟩ := J10_cut (fun q => hw (List.mem_cons_of_mem _ q)) (fun q => hv (List.mem_cons_of_mem _ q)) h2
    exact ⟨by rw [h1, h3], h4⟩
theorem J10_inj : ∀ {ws vs : List (List Nat)}, ws ≠ [] → vs ≠ [] → (∀ w ∈ ws, 10 ∉ w) → (∀ w ∈ vs, 10 ∉ w) → J10 ws = J10 vs → ws = vs
  | [], _, h, _, _, _, _ => absurd rfl h
  | _ :: _, [], _, h, _, _, _ => absurd rfl h
  | [w], [v], _, _, _, _, e => by rw [show w = v from e]
  | [w], v :: u :: r, _, _, hw, _, e => by
    have e2 : w = v ++ 10 :: J10 (u :: r) := e
    exact absurd (by rw [e2]; simp) (hw w List.mem_cons_self)
  | w :: u :: r, [v], _, _, _, hv, e => by
    have e2 : w ++ 10 :: J10 (u :: r) = v := e
    exact absurd (by rw [← e2]; simp) (hv v List.mem_cons_self)
  | w :: u :: r, v :: u2 :: r2, _, _, hw, hv, e => by
    obtain ⟨h1, h2⟩ := J10_cut (hw w List.mem_cons_self) (hv v List.mem_cons_self) (show w ++ 10 :: J10 (u :: r) = v ++ 10 :: J10 (u2 :: r2) from e)
    rw [h1, J10_inj (by simp) (by simp) (fun x h => hw x (List.mem_cons_of_mem _ h)) (fun x h => hv x (List.mem_cons_of_mem _ h)) h2]
theorem split_ne (x : Str) (c : Nat) : Txt.split x ⟨#[c]⟩ ≠ [] := by
  intro h
  have e := PySem.StrLaws.join_split x ⟨#[c]⟩
  rw [h] at e
  have e2 : x = Str.empty := e.symm
  rw [e2] at h
  have e3 : Txt.split Str.empty ⟨#[c]⟩ = [Str.empty] := by
    unfold Txt.split
    rw [if_pos]
    rw [Bool.or_eq_true]
    exact .inl (decide_eq_true (show (0 : Nat) < 1 by decide))
  rw [e3] at h
  cases h
theorem split_J10 {ws : List (List Nat)} (h0 : ws ≠ []) (h : ∀ w ∈ ws, 10 ∉ w) : Txt.split (S (J10 ws)) (S [10]) = ws.map S := by
  have e10 : (S [10] : Str) = ⟨#[10]⟩ := rfl
  have e1 := PySem.StrLaws.join_split (S (J10 ws)) (S [10])
  have e2 : Txt.split (S (J10 ws)) (S [10]) = ((Txt.split (S (J10 ws)) (S [10])).map fun p => p.cps.toList).map S := by
    rw [List.map_map]
    conv => lhs; rw [← List.map_id (Txt.split (S (J10 ws)) (S [10]))]
    exact List.map_congr_left fun x _ => (S_of x).symm
  rw [e2, join_J10] at e1
  rw [e2, J10_inj (ws := (Txt.split (S (J10 ws)) (S [10])).map fun p => p.cps.toList) (vs := ws) ?_ h0 ?_ h (S_inj e1)]
  · intro q
    exact split_ne (S (J10 ws)) 10 (List.map_eq_nil_iff.mp q)
  · intro w hw
    obtain ⟨p, hp, rfl⟩ := List.mem_map.mp hw
    exact PySem.StrLaws.split_free (S (J10 ws)) 10 p hp
theorem J10_len : ∀ ws : List (List Nat), ws.length ≤ (J10 ws).length + 1
  | [] => by simp [J10]
  | [w] => by simp [J10]
  | w :: v :: r => by
    have := J10_len (v :: r)
    show (v :: r).length + 1 ≤ (w ++ 10 :: J10 (v :: r)).length + 1
    rw [List.length_append, List.length_cons (as := J10 (v :: r))]
    omega
/-- a word of a page text: its signs, not too long, and no long number -/
structure Wd (w : List Nat) : Prop where
  sg : ∀ c ∈ w, 32 ≤ c ∧ c ≤ 126 ∧ c ≠ 37
  ln : w.length ≤ 14
  nm : (∀ c ∈ w, 48 ≤ c ∧ c ≤ 57) → w.length ≤ 12
theorem Wd.no10 {w : List Nat} (h : Wd w) : 10 ∉ w := fun q => by have := h.sg 10 q; omega
def keyB (w : List Nat) : Bool := decide (1 ≤ w.length ∧ w.length ≤ 13 ∧ 32 ∉ w)
def valB (w : List Nat) : Bool := decide (1 ≤ w.length ∧ w.length ≤ 13)
def numB (w : List Nat) : Bool := decide (w ≠ [] ∧ (∀ c ∈ w, 48 ≤ c ∧ c ≤ 57) ∧ (w[0]? = some 48 → w = [48]))
def valN (w : List Nat) : Int := ((NumText.digitsVal w : Nat) : Int)
def telN (w : List Nat) : Option Int := if numB w = true then some (valN w) else none
inductive Tl where
  | tx (l : List Nat)
  | no
  | pl (i : Int)
  | nw (i : Int)
structure Sh where
  leaf : Bool
  es : List (List Nat × Tl)
def optV : Option Int → V
  | none => .non
  | some i => .int i
def kindS (b : Bool) : Str := if b then Str.ofString "leaf" else Str.ofString "fork"
def TlAt (H : Hp) (v : V) : Tl → Prop
  | .tx l => v = .str (S l)
  | .no => v = .non
  | .pl i => v = .int i
  | .nw i => ∃ c, v = .ref c ∧ H c = some (.tup [.str (Str.ofString "new"), .int i])
def EnAt (H : Hp) (t : Addr) (e : List Nat × Tl) : Prop := ∃ v, H t = some (.tup [.str (S e.1), v]) ∧ TlAt H v e.2
def ShAt (H : Hp) (a : Addr) (sh : Sh) : Prop := ∃ b ts, H a = some (.tup [.str (kindS sh.leaf), .ref b]) ∧ H b = some (.tup (ts.map V.ref)) ∧ Paired (EnAt H) ts sh.es
def ShV (H : Hp) (v : V) : Option Sh → Prop
  | none => v = .non
  | some sh => ∃ a, v = .ref a ∧ ShAt H a sh
theorem TlAt.same {H H' : Hp} {v : V} {t : Tl} (h : TlAt H v t) (s : Same H H') : TlAt H' v t := by
  cases t with
  | tx l => exact h
  | no => exact h
  | pl i => exact h
  | nw i =>
    obtain ⟨c, e, q⟩ := h
    exact ⟨c, e, s _ _ q⟩
theorem EnAt.same {H H' : Hp} {t : Addr} {e : List Nat × Tl} (h : EnAt H t e) (s : Same H H') : EnAt H' t e := by
  obtain ⟨v, q, r⟩ := h
  exact ⟨v, s _ _ q, r.same s⟩
theorem ShAt.same {H H' : Hp} {a : Addr} {sh : Sh} (h : ShAt H a sh) (s : Same H H') : ShAt H' a sh := by
  obtain ⟨b, ts, h1, h2, h3⟩ := h
  exact ⟨b, ts, s _ _ h1, s _ _ h2, Paired.mono (fun _ _ q => q.same s) h3⟩
theorem ShV.same {H H' : Hp} {v : V} {o : Option Sh} (h : ShV H v o) (s : Same H H') : ShV H' v o := by
  cases o with
  | none => exact h
  | some sh =>
    obtain ⟨a, e, q⟩ := h
    exact ⟨a, e, q.same s⟩
def tlB (leaf : Bool) : Tl → Bool
  | .tx l => leaf && valB l
  | .no => false
  | .pl i => !leaf && decide (0 ≤ i)
  | .nw i => !leaf && decide (0 ≤ i)
def ranB (leaf : Bool) : List Nat → List (List Nat × Tl) → Bool
  | _, [] => true
  | last, e :: r => keyB e.1 && (decide (last < e.1) && (tlB leaf e.2 && ranB leaf e.1 r))
def ShB (sh : Sh) : Bool := decide ((if sh.leaf = true then 1 else 2) ≤ sh.es.length ∧ sh.es.length ≤ 4) && ranB sh.leaf [] sh.es
/-- the entries' form: texts in leaves alone -/
def FmS (leaf : Bool) (es : List (List Nat × Tl)) : Prop := ∀ e ∈ es, Wd e.1 ∧ (leaf = true → ∃ l, e.2 = .tx l ∧ Wd l) ∧ (leaf = false → ∀ l, e.2 ≠ .tx l)
def ents (leaf : Bool) (ks ts : List (List Nat)) : List (List Nat × Tl) := (ks.zip ts).map fun q => (q.1, if leaf = true then Tl.tx q.2 else match telN q.2 with
  | some i => .pl i
  | none => .no)
def parse : List (List Nat) → Option Sh
  | [] => none
  | f :: r => if (f = [108] ∨ f = [102]) ∧ r.length % 2 = 0 then (if ShB ⟨decide (f = [108]), ents (decide (f = [108])) (alt r) (alt (r.drop 1))⟩ = true then some ⟨decide (f = [108]), ents (decide (f = [108])) (alt r) (alt (r.drop 1))⟩ else none) else none
def digW (i : Int) : List Nat := (PySem.Str.ofString (toString i)).cps.toList
def tellW (ps : List Int) : Tl → List Nat
  | .tx l => l
  | .no => []
  | .pl i => digW i
  | .nw i => digW (ps.getD i.toNat 0)
def wordsOf (sh : Sh) (ps : List Int) : List (List Nat) := (if sh.leaf = true then [108] else [102]) :: sh.es.flatMap fun e => [e.1, tellW ps e.2]
theorem mem_fig (c : Nat) : c ∈ ([48, 49, 50, 51, 52, 53, 54, 55, 56, 57] : List Nat) ↔ 48 ≤ c ∧ c ≤ 57 := by
  simp only [List.mem_cons, List.not_mem_nil, or_false]
  omega
theorem e_nil : (Str.ofString "" : Str) = S [] := by decide +kernel
theorem e_0 : (Str.ofString "0" : Str) = S [48] := by decide +kernel
theorem intT {w : List Nat} (h0 : w ≠ []) (hd : ∀ c ∈ w, 48 ≤ c ∧ c ≤ 57) (hl : w.length ≤ 640) : PySem.intText? (S w) = some (valN w) :=
  SX.int_S (List.all_eq_true.mpr fun c hc => by have := hd c hc; simp [this]) h0 (by omega)
theorem valN_nn (w : List Nat) : 0 ≤ valN w := Int.natCast_nonneg _
theorem S_one (c : Nat) : (S [c] : Str) = ⟨#[c]⟩ := rfl
theorem all_signs {w : List Nat} (h : Wd w) : ∀ c ∈ w, c ∈ SIGNL := fun c hc => by
  obtain ⟨h1, h2, h3⟩ := h.sg c hc
  have q := (mem_signl c).mpr (by unfold WM.okc; omega)
  rcases List.mem_append.mp q with q | q
  · exact q
  · rw [List.mem_singleton.mp q] at h1; omega
theorem telN_some {w : List Nat} (h : w ≠ [] ∧ (∀ c ∈ w, 48 ≤ c ∧ c ≤ 57) ∧ (w[0]? = some 48 → w = [48])) : telN w = some (valN w) := by
  unfold telN
  rw [show numB w = true from decide_eq_true h, if_pos rfl]
theorem telN_none {w : List Nat} (h : ¬ (w ≠ [] ∧ (∀ c ∈ w, 48 ≤ c ∧ c ≤ 57) ∧ (w[0]? = some 48 → w = [48]))) : telN w = none := by
  unfold telN
  rw [show numB w = false from decide_eq_false h, if_neg Bool.false_ne_true]
theorem tgo {te : TE} {σ : L2.St} {H : Hp} {N : V → Hp → Prop} (v : V) (h : ∀ N : V → Hp → Prop, N v H → te σ H N) (k : N v H) : te σ H N := h N k
theorem tgoT {tt : TT} {σ : L2.St} {H : Hp} {N : Bool → Hp → Prop} (c : Bool) (h : ∀ N : Bool → Hp → Prop, N c H → tt σ H N) (k : N c H) : tt σ H N := h N k
theorem kindS_leaf (b : Bool) : decide (V.str (kindS b) = V.str (Str.ofString "leaf")) = b := by cases b <;> decide +kernel
theorem kindS_in (b : Bool) : inV (.str (kindS b)) [.str (Str.ofString "leaf"), .str (Str.ofString "fork")] = true := by cases b <;> decide +kernel
theorem ranB_drop {leaf : Bool} {last : List Nat} {es : List (List Nat × Tl)} {i : Nat} (h : i < es.length) : ranB leaf last (es.drop i) = (keyB es[i].1 && (decide (last < es[i].1) && (tlB leaf es[i].2 && ranB leaf es[i].1 (es.drop (i + 1))))) := by
  rw [List.drop_eq_getElem_cons h]
  rfl
theorem e_nl : (Str.ofString "\n" : Str) = S [10] := by decide +kernel
theorem e_l : (Str.ofString "l" : Str) = S [108] := by decide +kernel
theorem e_f : (Str.ofString "f" : Str) = S [102] := by decide +kernel
theorem snocP {α β : Type} {F : α → β → Prop} : ∀ {a : List α} {b : List β} {x : α} {y : β}, Paired F a b → F x y → Paired F (a ++ [x]) (b ++ [y])
  | _, _, _, _, .nil, h => .cons h .nil
  | _, _, _, _, .cons h t, g => .cons h (snocP t g)
theorem paired_map {α β γ δ : Type} {F : α → β → Prop} {G : α → γ → Prop} {f : δ → β} {g : δ → γ} (h : ∀ t q, F t (f q) → G t (g q)) : ∀ {ts : List α} {l : List δ}, Paired F ts (l.map f) → Paired G ts (l.map g)
  | _, [], .nil => .nil
  | _, q :: l, .cons a b => .cons (h _ q a) (paired_map h b)
def wV (w : List Nat) : V := .str (S w)
theorem map_wV (ws : List (List Nat)) : (ws.map S).map V.str = ws.map wV := by rw [List.map_map]; rfl
theorem S_beq (a b : List Nat) : (S a == S b) = decide (a = b) := by
  rw [Bool.eq_iff_iff, beq_iff_eq, decide_eq_true_iff]
  exact ⟨S_inj, fun e => by rw [e]⟩
theorem first_in (f : List Nat) : inV (V.str (S f)) [.str (Str.ofString "l"), .str (Str.ofString "f")] = decide (f = [108] ∨ f = [102]) := by
  rw [e_l, e_f]
  show ((S [108] == S f) || ((S [102] == S f) || false)) = _
  rw [S_beq, S_beq, Bool.or_false, Bool.eq_iff_iff, Bool.or_eq_true, decide_eq_true_iff, decide_eq_true_iff, decide_eq_true_iff]
  exact ⟨fun q => q.elim (fun e => .inl e.symm) fun e => .inr e.symm, fun q => q.elim (fun e => .inl e.symm) fun e => .inr e.symm⟩
theorem zip_wV (a b : List (List Nat)) : (a.map wV).zip (b.map wV) = (a.zip b).map fun q => (wV q.1, wV q.2) := by
  rw [List.zip_map]
  rfl
theorem ents_len (leaf : Bool) (a b : List (List Nat)) : (ents leaf a b).length ≤ a.length := by
  unfold ents
  rw [List.length_map, List.length_zip]
  exact Nat.min_le_left _ _
theorem mem_alt {α : Type} {x : α} : ∀ {l : List α}, x ∈ alt l → x ∈ l
  | [], h => by simp [alt] at h
  | [y], h => by simpa [alt] using h
  | y :: z :: r, h => by
    rcases List.mem_cons.mp (show x ∈ y :: alt r from h) with q | q
    · rw [q]; exact List.mem_cons_self
    · exact List.mem_cons_of_mem _ (List.mem_cons_of_mem _ (mem_alt q))
theorem ents_fm {leaf : Bool} {a b : List (List Nat)} (ha : ∀ w ∈ a, Wd w) (hb : ∀ w ∈ b, Wd w) : FmS leaf (ents leaf a b) := by
  intro e he
  obtain ⟨q, hq, rfl⟩ := List.mem_map.mp he
  obtain ⟨q1, q2⟩ := List.of_mem_zip hq
  refine ⟨ha _ q1, fun hl => ⟨q.2, ?_, hb _ q2⟩, fun hl l => ?_⟩
  · show (if leaf = true then _ else _) = _
    rw [if_pos hl]
  · show (if leaf = true then _ else _) ≠ _
    rw [hl, if_neg Bool.false_ne_true]
    cases telN q.2 <;> exact fun z => nomatch z
theorem parse_none {f : List Nat} {r : List (List Nat)} (h : ¬ ((f = [108] ∨ f = [102]) ∧ r.length % 2 = 0)) : parse (f :: r) = none := if_neg h
theorem parse_some {f : List Nat} {r : List (List Nat)} (h : (f = [108] ∨ f = [102]) ∧ r.length % 2 = 0) : parse (f :: r) = if ShB ⟨decide (f = [108]), ents (decide (f = [108])) (alt r) (alt (r.drop 1))⟩ = true then some ⟨decide (f = [108]), ents (decide (f = [108])) (alt r) (alt (r.drop 1))⟩ else none := if_pos h
theorem EnAt.put {H : Hp} {D t : Addr} {xs : List V} {o : HO} {e : List Nat × Tl} (hD : H D = some (.lst xs)) (h : EnAt H t e) : EnAt (upd H D o) t e := by
  have ne : ∀ (c : Addr) (ys : List V), H c = some (.tup ys) → c ≠ D := fun c ys e q => by rw [q, hD] at e; exact nomatch e
  obtain ⟨v, q, r⟩ := h
  refine ⟨v, by rw [upd_ne (ne _ _ q)]; exact q, ?_⟩
  obtain ⟨w, tl⟩ := e
  cases tl with
  | tx l => exact r
  | no => exact r
  | pl i => exact r
  | nw i =>
    obtain ⟨c, e, q⟩ := r
    exact ⟨c, e, by rw [upd_ne (ne _ _ q)]; exact q⟩
def enF (q : List Nat × List Nat) : List Nat × Tl := (q.1, match telN q.2 with
  | some i => .pl i
  | none => .no)
theorem ents_fork (a b : List (List Nat)) : ents false a b = (a.zip b).map enF := rfl
theorem ents_leaf (a b : List (List Nat)) : ents true a b = (a.zip b).map fun q => (q.1, Tl.tx q.2) := rfl
theorem tl_num (H : Hp) (w : List Nat) : TlAt H (optV (telN w)) (match telN w with
  | some i => .pl i
  | none => .no) := by
  cases telN w <;> rfl
theorem J10_ok : ∀ {ws : List (List Nat)}, (∀ w ∈ ws, Wd w) → ∀ c ∈ J10 ws, WM.okc c
  | [], _, c, h => nomatch h
  | [w], hw, c, h => by
    obtain ⟨h1, h2, h3⟩ := (hw w List.mem_cons_self).sg c h
    unfold WM.okc
    omega
  | w :: v :: r, hw, c, h => by
    rcases List.mem_append.mp (show c ∈ w ++ 10 :: J10 (v :: r) from h) with q | q
    · obtain ⟨h1, h2, h3⟩ := (hw w List.mem_cons_self).sg c q
      unfold WM.okc
      omega
    · rcases List.mem_cons.mp q with q | q
      · rw [q]; unfold WM.okc; omega
      · exact J10_ok (fun x hx => hw x (List.mem_cons_of_mem _ hx)) c q
theorem S_str (x : Str) : V.str x = wV x.cps.toList := by
  show V.str x = V.str (S x.cps.toList)
  rw [S_of]
theorem digW_nat (n : Nat) : digW (n : Int) = TL.numL n := TL.tl_num n
theorem digW_len {i : Int} (h0 : 0 ≤ i) (h : i < 10 ^ 12) : (digW i).length ≤ 12 := by
  obtain ⟨n, rfl⟩ : ∃ n : Nat, i = n := ⟨i.toNat, by omega⟩
  rw [digW_nat]
  exact TL.numL_len (by decide) (by omega)
theorem digW_wd {i : Int} (h0 : 0 ≤ i) (h : i < 10 ^ 12) : Wd (digW i) := by
  have hl := digW_len h0 h
  refine ⟨fun c hc => ?_, by omega, fun _ => hl⟩
  obtain ⟨n, rfl⟩ : ∃ n : Nat, i = n := ⟨i.toNat, by omega⟩
  rw [digW_nat] at hc
  have := TL.numL_digits n c hc
  omega
theorem small_log {i : Int} (h0 : 0 ≤ i) (h : i < 10 ^ 12) : i.natAbs.log2 < 1920 := by
  have hn : i.natAbs < 2 ^ 1920 := Nat.lt_of_lt_of_le (show i.natAbs < 10 ^ 12 by omega) (by decide +kernel)
  by_cases z : i.natAbs = 0
  · rw [z]; decide
  · exact (Nat.log2_lt z).mpr hn
theorem kindS_0 (b : Bool) : atI (kindS b).cps.toList 0 = some (if b = true then 108 else 102) := by cases b <;> decide +kernel
theorem kindS_len (b : Bool) : (kindS b).length ≤ sizeLine := by cases b <;> decide +kernel
theorem sum_le {k : Nat} : ∀ {l : List Nat}, (∀ x ∈ l, x ≤ k) → l.sum ≤ k * l.length
  | [], _ => Nat.zero_le _
  | x :: l, h => by
    have h1 := h x List.mem_cons_self
    have h2 := sum_le fun y hy => h y (List.mem_cons_of_mem _ hy)
    rw [List.sum_cons, List.length_cons, Nat.mul_add]
    omega
theorem join10 (ws : List (List Nat)) : Txt.join (Str.ofString "\n") (ws.map S) = S (J10 ws) := by
  rw [e_nl, ← join_J10]
  exact PySem.StrLaws.glued_eq_join _ _
theorem flat_len {α β : Type} (f : α → List β) (k : Nat) : ∀ l : List α, (∀ x, (f x).length = k) → (l.flatMap f).length = k * l.length
  | [], _ => rfl
  | x :: l, h => by
    rw [List.flatMap_cons, List.length_append, h x, flat_len f k l h, List.length_cons, Nat.mul_add]
    omega
/-- the words of a sheet are words -/
theorem words_wd {sh : Sh} {ps : List Int} (fm : FmS sh.leaf sh.es) (hp : ∀ i ∈ ps, 0 ≤ i ∧ i < 10 ^ 12) (hn : ∀ e ∈ sh.es, ∀ i, (e.2 = .pl i → 0 ≤ i ∧ i < 10 ^ 12) ∧ (e.2 = .nw i → 0 ≤ i ∧ i < ps.length)) : ∀ w ∈ wordsOf sh ps, Wd w := by
  have sm : ∀ c, c = 108 ∨ c = 102 → Wd [c] := fun c hc => ⟨fun d hd => by rw [List.mem_singleton.mp hd]; omega, by simp, fun _ => by simp⟩
  intro w hw
  unfold wordsOf at hw
  rcases List.mem_cons.mp hw with h | h
  · rw [h]
    cases sh.leaf
    · exact sm 102 (.inr rfl)
    · exact sm 108 (.inl rfl)
  · obtain ⟨e, he, hm⟩ := List.mem_flatMap.mp h
    obtain ⟨f1, f2, f3⟩ := fm e he
    rcases List.mem_cons.mp hm with h | h
    · rw [h]; exact f1
    · rw [List.mem_singleton.mp h]
      obtain ⟨kk, tl⟩ := e
      cases tl with
      | tx l =>
        cases hl : sh.leaf with
        | true =>
          obtain ⟨l', e1, e2⟩ := f2 hl
          cases e1
          exact e2
        | false => exact absurd rfl (f3 hl l)
      | no => exact ⟨(fun c hc => nomatch hc), Nat.zero_le _, fun _ => Nat.zero_le _⟩
      | pl i =>
        obtain ⟨q1, q2⟩ := (hn _ he i).1 rfl
        exact digW_wd q1 q2
      | nw i =>
        obtain ⟨q1, q2⟩ := (hn _ he i).2 rfl
        have hm : ps.getD i.toNat 0 ∈ ps := by
          rw [List.getD, List.getElem?_eq_getElem (by omega)]
          exact List.getElem_mem _
        obtain ⟨q3, q4⟩ := hp _ hm
        exact digW_wd q3 q4
theorem run_no {leaf : Bool} : ∀ {es : List (List Nat × Tl)} {last kk : List Nat}, ranB leaf last es = true → (kk, Tl.no) ∈ es → False
  | e :: r, last, kk, h, hm => by
    have h2 : (keyB e.1 && (decide (last < e.1) && (tlB leaf e.2 && ranB leaf e.1 r))) = true := h
    simp only [Bool.and_eq_true] at h2
    obtain ⟨_, _, h3, h4⟩ := h2
    rcases List.mem_cons.mp hm with q | q
    · rw [← q] at h3
      cases h3
    · exact run_no h4 q
theorem lt_one (c d : Nat) : decide (([c] : List Nat) < [d]) = decide (c < d) := by
  rw [Bool.eq_iff_iff, decide_eq_true_iff, decide_eq_true_iff, List.cons_lt_cons_iff]
  exact ⟨fun h => h.elim id fun q => absurd q.2 (List.lt_irrefl _), fun h => .inl h⟩
theorem e_33 : (Str.ofString "!" : Str).cps.toList = [33] := by decide +kernel
theorem e_32 : (Str.ofString " " : Str).cps.toList = [32] := by decide +kernel
theorem e_126 : (Str.ofString "~" : Str).cps.toList = [126] := by decide +kernel
theorem all_map (f : Nat → Bool) (w : List Nat) : (w.map f).all id = decide (∀ c ∈ w, f c = true) := by
  rw [Bool.eq_iff_iff, List.all_eq_true, decide_eq_true_iff]
  exact ⟨fun h c hc => h _ (List.mem_map_of_mem hc), fun h x hx => by obtain ⟨c, hc, rfl⟩ := List.mem_map.mp hx; exact h c hc⟩
theorem key_all {w : List Nat} (hw : Wd w) (h : 1 ≤ w.length ∧ w.length ≤ 13) : keyB w = (w.map fun c => decide (33 ≤ c ∧ c ≤ 126)).all id := by
  rw [all_map]
  unfold keyB
  rw [Bool.eq_iff_iff, decide_eq_true_iff, decide_eq_true_iff]
  refine ⟨fun q c hc => decide_eq_true ?_, fun q => ⟨h.1, h.2, fun hm => ?_⟩⟩
  · have := hw.sg c hc
    have hne : c ≠ 32 := fun e => q.2.2 (e ▸ hc)
    omega
  · have := of_decide_eq_true (q 32 hm)
    omega
theorem val_all {w : List Nat} (hw : Wd w) (h : 1 ≤ w.length ∧ w.length ≤ 13) : valB w = (w.map fun c => decide (32 ≤ c ∧ c ≤ 126)).all id := by
  rw [all_map]
  unfold valB
  rw [Bool.eq_iff_iff, decide_eq_true_iff, decide_eq_true_iff]
  exact ⟨fun q c hc => decide_eq_true (by have := hw.sg c hc; omega), fun _ => h⟩
theorem e_figs : (Str.ofString "0123456789" : Str).cps.toList = [48, 49, 50, 51, 52, 53, 54, 55, 56, 57] := by decide +kernel
theorem bl_map (f : Nat → Bool) (w : List Nat) : w.map (fun c => V.bl (f c)) = (w.map f).map V.bl := by rw [List.map_map]; rfl
theorem bl_snoc {f : Nat → Bool} {w : List Nat} {i c : Nat} (h : w[i]? = some c) : (((w.take i).map f).map V.bl) ++ [V.bl (f c)] = ((w.take (i + 1)).map f).map V.bl := by
  rw [List.take_add_one, h, List.map_append, List.map_append]
  rfl
def ShL (H : Hp) (v : V) : Option Sh → Prop
  | none => v = .non
  | some sh => ∃ a b ts, v = .ref a ∧ H a = some (.tup [.str (kindS sh.leaf), .ref b]) ∧ H b = some (.lst (ts.map V.ref)) ∧ Paired (EnAt H) ts sh.es
theorem kint_go {te : TE} {σ : L2.St} {H : Hp} {N : V → Hp → Prop} (h : ∀ N : V → Hp → Prop, (∀ (c : Int) H1, Same H H1 → N (.int c) H1) → te σ H N) (k : ∀ (c : Int) H1, Same H H1 → N (.int c) H1) : te σ H N := h N k
theorem cutV_ints (xs : List Int) (lo hi : Option Int) : ∃ ns : List Int, cutV (xs.map V.int) lo hi = ns.map V.int := by
  unfold cutV
  exact ⟨_, by rw [← List.map_drop, ← List.map_take]⟩
theorem prime_at (c : Int) : ∃ p : Int, atI [V.int 2147483647, V.int 2147483629, V.int 2147483587, V.int 2147483579, V.int 2147483563] (c % 5) = some (.int p) ∧ 1 ≤ p ∧ p ≤ 2147483647 := by
  have h : c % 5 = 0 ∨ c % 5 = 1 ∨ c % 5 = 2 ∨ c % 5 = 3 ∨ c % 5 = 4 := by omega
  rcases h with h | h | h | h | h <;> rw [h] <;> exact ⟨_, rfl, by decide, by decide⟩
theorem mulOkL {i j : Int} (h0 : 0 ≤ i) (h : i < 2 ^ 64) : CMul i j := .inl ⟨by omega, h⟩
theorem mulOkR {i j : Int} (h0 : 0 ≤ j) (h : j < 2 ^ 64) : CMul i j := .inr ⟨by omega, h⟩
theorem pow3Ok {i : Int} (h0 : 0 ≤ i) (h : i < 2 ^ 64) : CPowW i 3 := by
  refine ⟨by decide, ?_⟩
  have : Builtin.Int.intBits i ≤ 64 := by
    exact intBits_le (by omega)
  omega
/-! ### rising keys -/
def ascFrom : List Nat → List (List Nat) → Bool
  | _, [] => true
  | k, x :: r => decide (k < x) && ascFrom x r
def ascB : List (List Nat) → Bool
  | [] => true
  | k :: r => ascFrom k r
theorem ascFrom_pw : ∀ {r : List (List Nat)} {k : List Nat}, ascFrom k r = true ↔ (k :: r).Pairwise (· < ·)
  | [], k => by simp [ascFrom]
  | x :: r, k => by
    have ih := ascFrom_pw (r := r) (k := x)
    show (decide (k < x) && ascFrom x r) = true ↔ _
    constructor
    · intro h
      rw [Bool.and_eq_true, decide_eq_true_iff] at h
      have h2 := ih.mp h.2
      refine List.pairwise_cons.mpr ⟨fun y hy => ?_, h2⟩
      rcases List.mem_cons.mp hy with q | q
      · rw [q]; exact h.1
      · exact List.lt_trans h.1 ((List.pairwise_cons.mp h2).1 y q)
    · intro h
      obtain ⟨h1, h2⟩ := List.pairwise_cons.mp h
      rw [Bool.and_eq_true, decide_eq_true_iff]
      exact ⟨h1 x List.mem_cons_self, ih.mpr h2⟩
theorem ascB_pw : ∀ {l : List (List Nat)}, ascB l = true ↔ l.Pairwise (· < ·)
  | [] => by simp [ascB]
  | k :: r => ascFrom_pw
theorem lt_of_not {p x : List Nat} (h : ¬ x < p) (ne : p ≠ x) : p < x := by
  by_cases q : p < x
  · exact q
  · exact absurd (List.le_antisymm (List.not_lt.mp h) (List.not_lt.mp q)) ne
theorem rising_asc : ∀ {r : List (List Nat)} {p : List Nat}, PyProof.Rows.risingS (S p) (r.map S) = true → (p :: r).Nodup → ascFrom p r = true
  | [], _, _, _ => rfl
  | x :: r, p, h, nd => by
    have h2 : (!PySem.Spec.ltCps (S x).cps.toList (S p).cps.toList && PyProof.Rows.risingS (S x) (r.map S)) = true := h
    rw [Bool.and_eq_true, PyProof.Rows.ltCps_eq, S_cps, S_cps, Bool.not_eq_true', decide_eq_false_iff_not] at h2
    obtain ⟨n1, n2⟩ := List.nodup_cons.mp nd
    show (decide (p < x) && ascFrom x r) = true
    rw [decide_eq_true (lt_of_not h2.1 (fun e => n1 (e ▸ List.mem_cons_self))), Bool.true_and]
    exact rising_asc h2.2 n2
theorem sorted_asc : ∀ {l : List (List Nat)}, PyProof.Rows.sortedS (l.map S) = true → l.Nodup → ascB l = true
  | [], _, _ => rfl
  | _ :: _, h, nd => rising_asc h nd
theorem asc_ext : ∀ {a b : List (List Nat)}, a.Pairwise (· < ·) → b.Pairwise (· < ·) → (∀ x, x ∈ a ↔ x ∈ b) → a = b
  | [], [], _, _, _ => rfl
  | [], y :: b, _, _, h => by have := (h y).mpr List.mem_cons_self; cases this
  | x :: a, [], _, _, h => by have := (h x).mp List.mem_cons_self; cases this
  | x :: a, y :: b, ha, hb, h => by
    obtain ⟨a1, a2⟩ := List.pairwise_cons.mp ha
    obtain ⟨b1, b2⟩ := List.pairwise_cons.mp hb
    have e : x = y := by
      rcases List.mem_cons.mp ((h x).mp List.mem_cons_self) with q | q
      · exact q
      · rcases List.mem_cons.mp ((h y).mpr List.mem_cons_self) with q2 | q2
        · exact q2.symm
        · exact absurd (List.lt_trans (b1 x q) (a1 y q2)) (List.lt_irrefl _)
    subst e
    have tl := asc_ext a2 b2 fun z => by
      constructor
      · intro hz
        rcases List.mem_cons.mp ((h z).mp (List.mem_cons_of_mem _ hz)) with q | q
        · exact absurd (q ▸ a1 z hz) (List.lt_irrefl _)
        · exact q
      · intro hz
        rcases List.mem_cons.mp ((h z).mpr (List.mem_cons_of_mem _ hz)) with q | q
        · exact absurd (q ▸ b1 z hz) (List.lt_irrefl _)
        · exact q
    rw [tl]
theorem sort_dec {keys zs : List (List Nat)} (nd : zs.Nodup) (mem : ∀ x, x ∈ zs ↔ x ∈ keys) (so : PyProof.Rows.sortedS (zs.map S) = true) : decide (keys = zs) = ascB keys := by
  have hz := sorted_asc so nd
  by_cases e : keys = zs
  · rw [decide_eq_true e, e, hz]
  · rw [decide_eq_false e]
    cases h : ascB keys with
    | false => rfl
    | true => exact absurd (asc_ext (ascB_pw.mp h) (ascB_pw.mp hz) fun x => (mem x).symm) e
theorem ranB_eq {leaf : Bool} : ∀ {es : List (List Nat × Tl)} {last : List Nat}, ranB leaf last es = (es.all (fun e => keyB e.1) && (ascFrom last (es.map (·.1)) && es.all (fun e => tlB leaf e.2)))
  | [], _ => rfl
  | e :: r, last => by
    show (keyB e.1 && (decide (last < e.1) && (tlB leaf e.2 && ranB leaf e.1 r))) = ((keyB e.1 && r.all (fun e => keyB e.1)) && ((decide (last < e.1) && ascFrom e.1 (r.map (·.1))) && (tlB leaf e.2 && r.all (fun e => tlB leaf e.2))))
    rw [ranB_eq (es := r) (last := e.1)]
    cases keyB e.1 <;> cases decide (last < e.1) <;> cases tlB leaf e.2 <;> cases r.all (fun e => keyB e.1) <;> cases ascFrom e.1 (r.map (·.1)) <;> rfl
theorem key_ne {w : List Nat} (h : keyB w = true) : decide (([] : List Nat) < w) = true := by
  have h2 := of_decide_eq_true h
  cases w with
  | nil => exact absurd h2.1 (by decide)
  | cons c r => exact decide_eq_true (List.nil_lt_cons _ _)
theorem asc_nil {l : List (List Nat)} (h : l.all keyB = true) : ascFrom [] l = ascB l := by
  cases l with
  | nil => rfl
  | cons k r =>
    show (decide (([] : List Nat) < k) && ascFrom k r) = ascFrom k r
    rw [key_ne (List.all_eq_true.mp h k List.mem_cons_self), Bool.true_and]
/-- what a sheet's words must be: as the law's own reading asks it -/
theorem ShB_ents {leaf : Bool} {ks ts : List (List Nat)} (hl : ks.length = ts.length) : ShB ⟨leaf, ents leaf ks ts⟩ = (decide ((if leaf = true then 1 else 2) ≤ ks.length ∧ ks.length ≤ 4) && (ks.all keyB && (ascB ks && (if leaf = true then ts.all valB else ts.all fun w => (telN w).isSome)))) := by
  have e1 : (ents leaf ks ts).map (·.1) = ks := by
    unfold ents
    rw [List.map_map]
    show (ks.zip ts).map (fun q => q.1) = ks
    exact List.map_fst_zip (by omega)
  have e2 : (ents leaf ks ts).length = ks.length := by rw [← List.length_map (f := fun e : List Nat × Tl => e.1), e1]
  have e3 : (ents leaf ks ts).all (fun e => keyB e.1) = ks.all keyB := by
    conv => rhs; rw [← e1]
    rw [List.all_map]
    rfl
  have e4 : (ents leaf ks ts).all (fun e => tlB leaf e.2) = (if leaf = true then ts.all valB else ts.all fun w => (telN w).isSome) := by
    have q : ts = (ks.zip ts).map (fun q => q.2) := (List.map_snd_zip (by omega)).symm
    cases leaf with
    | true =>
      rw [if_pos rfl]
      conv => rhs; rw [q]
      unfold ents
      rw [List.all_map, List.all_map]
      rfl
    | false =>
      rw [if_neg Bool.false_ne_true]
      conv => rhs; rw [q]
      unfold ents
      rw [List.all_map, List.all_map]
      congr 1
      funext x
      show tlB false (match telN x.2 with | some i => .pl i | none => .no) = (telN x.2).isSome
      unfold telN
      split
      · rename_i i h
        split at h
        · rename_i hh
          cases h
          rw [if_pos hh]
          show decide (0 ≤ valN x.2) = true
          exact decide_eq_true (valN_nn _)
        · cases h
      · rename_i h
        split at h
        · cases h
        · rename_i hh
          rw [if_neg hh]
          rfl
  unfold ShB
  rw [e2, ranB_eq, e3, e1, e4]
  cases hk : ks.all keyB with
  | false => rfl
  | true => rw [asc_nil hk]
theorem eqvAll_strs : ∀ a b : List (List Nat), PyData.eqvAll (a.map fun w => PyData.str (S w)) (b.map fun w => PyData.str (S w)) = decide (a = b)
  | [], [] => by simp only [List.map_nil, PyData.eqvAll, decide_true]
  | [], _ :: _ => by simp [PyData.eqvAll]
  | _ :: _, [] => by simp [PyData.eqvAll]
  | x :: xs, y :: ys => by
    rw [List.map_cons, List.map_cons, PyData.eqvAll, eqvAll_strs xs ys]
    have e : PyData.eqv (.str (S x)) (.str (S y)) = decide (x = y) := by
      rw [PyData.eqv]
      exact S_beq x y
    rw [e, ← Bool.decide_and]
    exact decide_eq_decide.mpr (by rw [List.cons.injEq])
theorem wd_strOk {w : List Nat} (h : Wd w) : PyData.canLay0 (.str (S w)) = true := by
  show (S w).cps.all (· < 0x110000) = true
  rw [← Array.all_toList, S_cps, List.all_eq_true]
  intro c hc
  have := h.sg c hc
  exact decide_eq_true (by omega)
theorem lay_strs : ∀ {ws : List (List Nat)}, (∀ w ∈ ws, Wd w) → PyData.canLayAll0 (ws.map fun w => PyData.str (S w)) = true
  | [], _ => rfl
  | w :: r, h => by
    rw [List.map_cons, PyData.canLayAll0, lay_strs fun x hx => h x (List.mem_cons_of_mem _ hx), Bool.and_true]
    exact wd_strOk (h w List.mem_cons_self)
theorem depth_strs : ∀ ws : List (List Nat), PyData.depthAll (ws.map fun w => PyData.str (S w)) ≤ 1
  | [] => by show 0 ≤ 1; decide
  | w :: r => by
    rw [List.map_cons, PyData.depthAll]
    exact Nat.max_le.mpr ⟨by show _ ≤ 1; simp [PyData.depth], depth_strs r⟩
theorem shaped_strs {ws : List (List Nat)} (h : ∀ w ∈ ws, Wd w) : SeqAt.shaped (.list (ws.map fun w => PyData.str (S w))) = true := by
  unfold SeqAt.shaped
  rw [Bool.and_eq_true]
  refine ⟨lay_strs h, decide_eq_true ?_⟩
  have := depth_strs ws
  show PyData.depth (.list _) ≤ 64
  rw [PyData.depth]
  omega
theorem dp_strs {K : PySem.W.Frag} {H : Hp} {p : Addr} {ws : List (List Nat)} (h : SqL K H p (ws.map wV)) : Dp K H (.ref p) (.list (ws.map fun w => PyData.str (S w))) := by
  refine .lst h ?_
  clear h
  induction ws with
  | nil => exact .nil
  | cons w r ih => exact .cons (.str _) ih
def toldL (leaf : Bool) (ts : List (List Nat)) : List V := if leaf = true then ts.map wV else ts.map fun w => optV (telN w)
theorem toldL_len (leaf : Bool) (ts : List (List Nat)) : (toldL leaf ts).length = ts.length := by
  unfold toldL
  cases leaf <;> simp
theorem toldL_flat (leaf : Bool) (ts : List (List Nat)) : (toldL leaf ts).all flatV = true := by
  unfold toldL
  cases leaf with
  | true =>
    rw [if_pos rfl, List.all_map, List.all_eq_true]
    exact fun w _ => rfl
  | false =>
    rw [if_neg Bool.false_ne_true, List.all_map, List.all_eq_true]
    intro w _
    show flatV (optV (telN w)) = true
    cases telN w <;> rfl
theorem toldL_no (leaf : Bool) (ts : List (List Nat)) : inV .non (toldL leaf ts) = (if leaf = true then false else !(ts.all fun w => (telN w).isSome)) := by
  unfold toldL inV
  cases leaf with
  | true =>
    rw [if_pos rfl, if_pos rfl, List.any_map]
    rw [List.any_eq_false]
    exact fun w _ => by show ¬ false = true; exact Bool.false_ne_true
  | false =>
    rw [if_neg Bool.false_ne_true, if_neg Bool.false_ne_true, List.any_map, List.not_all_eq_any_not]
    congr 1
    funext w
    show eqV (optV (telN w)) .non = !(telN w).isSome
    cases telN w <;> rfl
theorem range_getD {α β : Type} (d : α) (g : α → β) (ws : List α) : (List.range ws.length).map (fun i => g (ws.getD i d)) = ws.map g := by
  apply List.ext_getElem?
  intro i
  rw [List.getElem?_map, List.getElem?_map]
  by_cases h : i < ws.length
  · rw [List.getElem?_range h, List.getElem?_eq_getElem h]
    show some (g (ws.getD i d)) = some (g ws[i])
    rw [List.getD, List.getElem?_eq_getElem h]
    rfl
  · rw [List.getElem?_eq_none (by rw [List.length_range]; omega), List.getElem?_eq_none (by omega)]
    rfl
theorem tgoE {te : TE} {σ : L2.St} {H : Hp} {N : V → Hp → Prop} (R : V → Hp → Prop) (h : ∀ N : V → Hp → Prop, (∀ v H', R v H' → N v H') → te σ H N) (k : ∀ v H', R v H' → N v H') : te σ H N := h N k
def LF : List (Key × V) := [(.inr (Str.ofString "l"), .str (Str.ofString "leaf")), (.inr (Str.ofString "f"), .str (Str.ofString "fork"))]
theorem LF_merge : mergeK [] LF = LF := by decide +kernel
theorem LF_get (f : List Nat) : ((valV LF (.inr (S f))).getD .non) = (if f = [108] ∨ f = [102] then V.str (kindS (decide (f = [108]))) else .non) := by
  by_cases h1 : f = [108]
  · rw [h1]; decide +kernel
  by_cases h2 : f = [102]
  · rw [h2]; decide +kernel
  rw [if_neg (fun q => q.elim h1 h2)]
  have g : valV LF (.inr (S f)) = none := by
    unfold valV
    rw [List.find?_eq_none.mpr]
    · rfl
    intro kv hkv hd
    have e := of_decide_eq_true hd
    rcases List.mem_cons.mp hkv with q | q
    · rw [q, e_l] at e
      exact h1 (S_inj (Sum.inr.inj e)).symm
    · rw [List.mem_singleton.mp q, e_f] at e
      exact h2 (S_inj (Sum.inr.inj e)).symm
  rw [g]
  rfl
theorem str_map (ys : List Str) : ys = (ys.map fun y => y.cps.toList).map S := by
  rw [List.map_map]
  conv => lhs; rw [← List.map_id ys]
  exact List.map_congr_left fun x _ => (S_of x).symm
theorem ite_tC {b : Bool} {σ : L2.St} {H : Hp} {F : V → Hp → Prop} (h : F (.int (if b = true then 1 else 2)) H) : if b = true then tC (.int 1) σ H F else tC (.int 2) σ H F := by
  cases b <;> exact h
/-! ### drawn words -/
def wdOk (w : List Nat) : Bool := (w.all fun c => decide (32 ≤ c ∧ c ≤ 126 ∧ c ≠ 37)) && (decide (w.length ≤ 14) && (!(w.all fun c => decide (48 ≤ c ∧ c ≤ 57)) || decide (w.length ≤ 12)))
theorem wd_of {w : List Nat} (h : wdOk w = true) : Wd w := by
  unfold wdOk at h
  rw [Bool.and_eq_true, Bool.and_eq_true, Bool.or_eq_true, Bool.not_eq_true', decide_eq_true_iff, decide_eq_true_iff] at h
  obtain ⟨h1, h2, h3⟩ := h
  refine ⟨fun c hc => of_decide_eq_true (List.all_eq_true.mp h1 c hc), h2, fun q => ?_⟩
  rcases h3 with h3 | h3
  · exact absurd (List.all_eq_true.mpr fun c hc => decide_eq_true (q c hc)) (by rw [h3]; exact Bool.false_ne_true)
  · exact h3
theorem lit_ok {B : List Nat → Bool} (x : Str) (h : (wdOk x.cps.toList && B x.cps.toList) = true) : ∃ w, V.str x = V.str (S w) ∧ Wd w ∧ B w = true := by
  rw [Bool.and_eq_true] at h
  exact ⟨x.cps.toList, by rw [S_of], wd_of h.1, h.2⟩
theorem keys8 : ∀ x ∈ [V.str (Str.ofString "!"), V.str (Str.ofString "~"), V.str (Str.ofString "l"), V.str (Str.ofString "f"), V.str (Str.ofString "0"), V.str (Str.ofString "root"), V.str (Str.ofString "n0001"), V.str (Str.ofString "zzzzzzzzzzzzz")], ∃ w, x = V.str (S w) ∧ Wd w ∧ keyB w = true := by
  intro x hx
  simp only [List.mem_cons, List.not_mem_nil, or_false] at hx
  rcases hx with rfl | rfl | rfl | rfl | rfl | rfl | rfl | rfl <;> exact lit_ok _ (by decide +kernel)
theorem vals8 : ∀ x ∈ [V.str (Str.ofString "one"), V.str (Str.ofString " "), V.str (Str.ofString "6"), V.str (Str.ofString "-1"), V.str (Str.ofString "two words"), V.str (Str.ofString "l"), V.str (Str.ofString "~~~~~~~~~~~~~"), V.str (Str.ofString "f 2 2")], ∃ w, x = V.str (S w) ∧ Wd w ∧ valB w = true := by
  intro x hx
  simp only [List.mem_cons, List.not_mem_nil, or_false] at hx
  rcases hx with rfl | rfl | rfl | rfl | rfl | rfl | rfl | rfl <;> exact lit_ok _ (by decide +kernel)
theorem e_abc : (Str.ofString "abcdkz" : Str) = S [97, 98, 99, 100, 107, 122] := by decide +kernel
theorem S_num (i : Int) : (Str.ofString (toString i) : Str) = S (digW i) := (S_of _).symm
theorem e_bang (b : Bool) : (⟨(List.replicate (11 * (if b = true then (1 : Int) else 0)).toNat (Str.ofString "!" : Str).cps).foldl (· ++ ·) #[]⟩ : Str) = S (if b = true then List.replicate 11 33 else []) := by cases b <;> decide +kernel
theorem drawn_key {c : Nat} {e : Int} {b : Bool} (hc : c ∈ [97, 98, 99, 100, 107, 122]) (e0 : 0 ≤ e) (e1 : e < 9) : Wd ([c] ++ digW e ++ (if b = true then List.replicate 11 33 else [])) ∧ keyB ([c] ++ digW e ++ (if b = true then List.replicate 11 33 else [])) = true := by
  obtain ⟨n, rfl⟩ : ∃ n : Nat, e = n := ⟨e.toNat, by omega⟩
  rw [digW_nat, TL.numL_lt (by omega)]
  have all : ∀ c ∈ [97, 98, 99, 100, 107, 122], ∀ n, n < 9 → ∀ b : Bool, (wdOk ([c] ++ [48 + n] ++ (if b = true then List.replicate 11 33 else [])) && keyB ([c] ++ [48 + n] ++ (if b = true then List.replicate 11 33 else []))) = true := by decide +kernel
  have h := all c hc n (by omega) b
  rw [Bool.and_eq_true] at h
  exact ⟨wd_of h.1, h.2⟩
theorem digW_val {e : Int} (e0 : 0 ≤ e) (e1 : e < 10 ^ 12) : valB (digW e) = true := by
  have hl := digW_len e0 e1
  refine decide_eq_true ⟨?_, by omega⟩
  obtain ⟨n, rfl⟩ : ∃ n : Nat, e = n := ⟨e.toNat, by omega⟩
  rw [digW_nat]
  have := TL.numL_ne n
  cases h : TL.numL n with
  | nil => exact absurd h this
  | cons c r => simp
theorem ite_tS {b : Bool} {σ : L2.St} {H : Hp} {F : V → Hp → Prop} (h : F (wV (if b = true then [108] else [102])) H) : if b = true then tC (.str (Str.ofString "l")) σ H F else tC (.str (Str.ofString "f")) σ H F := by
  rw [e_l, e_f]
  cases b <;> exact h
/-! ### what repr tells of sheets -/
structure Rp (d : PyData) (k n : Nat) : Prop where
  sh : d.showable = true
  dp : d.depth ≤ k
  sz : d.shown.length ≤ n
theorem rp_all {k n : Nat} : ∀ {ds : List PyData}, (∀ d ∈ ds, Rp d k n) → PyData.showableAll ds = true ∧ PyData.depthAll ds ≤ k ∧ ((PyData.shownAll ds).map (·.length)).sum ≤ n * ds.length ∧ (PyData.shownAll ds).length = ds.length
  | [], _ => ⟨rfl, Nat.zero_le _, Nat.zero_le _, rfl⟩
  | d :: r, h => by
    obtain ⟨a1, a2, a3⟩ := h d List.mem_cons_self
    obtain ⟨b1, b2, b3, b4⟩ := rp_all fun x hx => h x (List.mem_cons_of_mem _ hx)
    refine ⟨?_, ?_, ?_, ?_⟩
    · rw [PyData.showableAll, a1, b1]; rfl
    · rw [PyData.depthAll]; exact Nat.max_le.mpr ⟨a2, b2⟩
    · rw [PyData.shownAll, List.map_cons, List.sum_cons, List.length_cons, Nat.mul_add]; omega
    · rw [PyData.shownAll, List.length_cons, List.length_cons, b4]
theorem rp_tup {k n : Nat} {ds : List PyData} (h : ∀ d ∈ ds, Rp d k n) : Rp (.tuple ds) (k + 1) ((n + 2) * ds.length + 3) := by
  obtain ⟨b1, b2, b3, b4⟩ := rp_all h
  refine ⟨?_, ?_, ?_⟩
  · rw [PyData.showable]; exact b1
  · rw [PyData.depth]; omega
  · rw [PyData.shown]
    have := tupleText_len_le (PyData.shownAll ds)
    rw [b4] at this
    rw [Nat.add_mul]
    omega
theorem Rp.mono {d : PyData} {k n k2 n2 : Nat} (h : Rp d k n) (hk : k ≤ k2) (hn : n ≤ n2) : Rp d k2 n2 := ⟨h.sh, Nat.le_trans h.dp hk, Nat.le_trans h.sz hn⟩
theorem rp_str {l : List Nat} (h : Wd l) : Rp (.str (S l)) 0 200 := by
  refine ⟨rfl, Nat.le_refl _, ?_⟩
  have q := StrLaws.reprText_len (S l) (fun c hc => by
      rw [S_cps] at hc
      have := h.sg c hc
      have : (1114112 : Nat) ≤ 16 ^ 8 := by decide
      omega)
  rw [S_len l] at q
  have h1 := h.ln
  show (reprText (S l)).length ≤ _
  omega
def tlD : Tl → PyData
  | .tx l => .str (S l)
  | .no => .none
  | .pl i => .int i
  | .nw i => .tuple [.str (Str.ofString "new"), .int i]
def enD (e : List Nat × Tl) : PyData := .tuple [.str (S e.1), tlD e.2]
def shD (sh : Sh) : PyData := .tuple [.str (kindS sh.leaf), .tuple (sh.es.map enD)]
def optD : Option Sh → PyData
  | none => .none
  | some sh => shD sh
def TlG : Tl → Prop
  | .tx l => Wd l
  | .no => True
  | .pl i => 0 ≤ i ∧ i < 10 ^ 12
  | .nw _ => False
theorem dp_tl {H : Hp} {v : V} {t : Tl} (h : TlAt H v t) : Dp K H v (tlD t) := by
  cases t with
  | tx l => cases (show v = V.str (S l) from h); exact .str _
  | no => cases (show v = V.non from h); exact .non
  | pl i => cases (show v = V.int i from h); exact .int _
  | nw i =>
    obtain ⟨c, rfl, hc⟩ := h
    exact .tup (SqT.of hc) (.cons (.str _) (.cons (.int _) .nil))
theorem dp_ens {H : Hp} : ∀ {ts : List Addr} {es : List (List Nat × Tl)}, Paired (EnAt H) ts es → DpAll K H (ts.map V.ref) (es.map enD)
  | _, _, .nil => .nil
  | _, _, .cons ⟨v, h1, h2⟩ t => .cons (.tup (SqT.of h1) (.cons (.str _) (.cons (dp_tl h2) .nil))) (dp_ens t)
theorem dp_sh {H : Hp} {a : Addr} {sh : Sh} (h : ShAt H a sh) : Dp K H (.ref a) (shD sh) := by
  obtain ⟨b, ts, h1, h2, h3⟩ := h
  exact .tup (SqT.of h1) (.cons (.str _) (.cons (.tup (SqT.of h2) (dp_ens h3)) .nil))
theorem dp_opt {H : Hp} {v : V} {o : Option Sh} (h : ShV H v o) : Dp K H v (optD o) := by
  cases o with
  | none => cases (show v = V.non from h); exact .non
  | some sh => obtain ⟨a, rfl, q⟩ := h; exact dp_sh q
theorem rp_tl {t : Tl} (h : TlG t) : Rp (tlD t) 0 2000 := by
  cases t with
  | tx l => exact (rp_str h).mono (Nat.le_refl _) (by decide)
  | no => exact ⟨rfl, Nat.le_refl _, by show (Str.ofString "None").length ≤ 2000; decide +kernel⟩
  | pl i =>
    have hl := small_log h.1 h.2
    exact ⟨decide_eq_true hl, Nat.le_refl _, Nat.le_trans (PyProof.Rows.int_text_len_1921 hl) (by decide)⟩
  | nw i => exact absurd h id
theorem rp_sh {sh : Sh} (hn : sh.es.length ≤ 4) (h : ∀ e ∈ sh.es, Wd e.1 ∧ TlG e.2) : Rp (shD sh) 3 50000 := by
  have r1 : ∀ d ∈ sh.es.map enD, Rp d 1 4007 := fun d hd => by
    obtain ⟨e, he, rfl⟩ := List.mem_map.mp hd
    obtain ⟨w1, w2⟩ := h e he
    exact (rp_tup (k := 0) (n := 2000) (ds := [.str (S e.1), tlD e.2]) fun x hx => by
      rcases List.mem_cons.mp hx with q | q
      · rw [q]; exact (rp_str w1).mono (Nat.le_refl _) (by decide)
      · rw [List.mem_singleton.mp q]; exact rp_tl w2).mono (Nat.le_refl _) (by show (2000 + 2) * 2 + 3 ≤ 4007; decide)
  have r2 : Rp (.tuple (sh.es.map enD)) 2 16039 := (rp_tup r1).mono (Nat.le_refl _) (by rw [List.length_map]; omega)
  have rk : Rp (.str (kindS sh.leaf)) 2 16039 := by
    cases sh.leaf <;> exact ⟨rfl, Nat.zero_le _, by decide +kernel⟩
  exact (rp_tup (k := 2) (n := 16039) (ds := [.str (kindS sh.leaf), .tuple (sh.es.map enD)]) fun x hx => by
      rcases List.mem_cons.mp hx with q | q
      · rw [q]; exact rk
      · rw [List.mem_singleton.mp q]; exact r2).mono (Nat.le_refl _) (by show (16039 + 2) * 2 + 3 ≤ 50000; decide)
theorem digits_lt : ∀ (l : List Nat) (a : Nat), (∀ c ∈ l, 48 ≤ c ∧ c ≤ 57) → l.foldl (fun acc c => acc * 10 + (c - 48)) a < (a + 1) * 10 ^ l.length
  | [], a, _ => by simp
  | c :: r, a, h => by
    have hc := h c List.mem_cons_self
    have ih := digits_lt r (a * 10 + (c - 48)) fun x hx => h x (List.mem_cons_of_mem _ hx)
    show r.foldl _ (a * 10 + (c - 48)) < _
    refine Nat.lt_of_lt_of_le ih ?_
    rw [List.length_cons, Nat.pow_succ, Nat.mul_comm (10 ^ r.length) 10, ← Nat.mul_assoc]
    exact Nat.mul_le_mul_right _ (by omega)
theorem valN_lt {w : List Nat} (hw : Wd w) (hd : ∀ c ∈ w, 48 ≤ c ∧ c ≤ 57) : valN w < 10 ^ 12 := by
  have h := digits_lt w 0 hd
  have hl := hw.nm hd
  have h2 : 10 ^ w.length ≤ 10 ^ 12 := Nat.pow_le_pow_right (by decide) hl
  show ((NumText.digitsVal w : Nat) : Int) < _
  have h3 : NumText.digitsVal w < 10 ^ 12 := by
    show w.foldl (fun acc c => acc * 10 + (c - 48)) 0 < _
    omega
  omega
theorem ents_good {leaf : Bool} {a b : List (List Nat)} (ha : ∀ w ∈ a, Wd w) (hb : ∀ w ∈ b, Wd w) : ∀ e ∈ ents leaf a b, Wd e.1 ∧ TlG e.2 := by
  intro e he
  obtain ⟨q, hq, rfl⟩ := List.mem_map.mp he
  obtain ⟨q1, q2⟩ := List.of_mem_zip hq
  refine ⟨ha _ q1, ?_⟩
  show TlG (if leaf = true then _ else _)
  cases leaf with
  | true => rw [if_pos rfl]; exact hb _ q2
  | false =>
    rw [if_neg Bool.false_ne_true]
    cases h : telN q.2 with
    | none => exact trivial
    | some i =>
      unfold telN at h
      split at h
      · rename_i hh
        cases h
        exact ⟨valN_nn _, valN_lt (hb _ q2) (of_decide_eq_true hh).2.1⟩
      · cases h
theorem parse_fine {ws : List (List Nat)} (hw : ∀ w ∈ ws, Wd w) : (optD (parse ws)).showable = true ∧ (optD (parse ws)).depth ≤ 40 ∧ (optD (parse ws)).shown.length ≤ sizeLine := by
  have no : (optD none).showable = true ∧ (optD none).depth ≤ 40 ∧ (optD none).shown.length ≤ sizeLine := ⟨rfl, by decide, by rw [sizeLine_eq]; show (Str.ofString "None").length ≤ _; decide +kernel⟩
  cases ws with
  | nil => exact no
  | cons f r =>
    by_cases h : (f = [108] ∨ f = [102]) ∧ r.length % 2 = 0
    · rw [parse_some h]
      cases hs : ShB ⟨decide (f = [108]), ents (decide (f = [108])) (alt r) (alt (r.drop 1))⟩ with
      | false => rw [if_neg Bool.false_ne_true]; exact no
      | true =>
        rw [if_pos rfl]
        have wr : ∀ w ∈ r, Wd w := fun w h => hw w (List.mem_cons_of_mem _ h)
        have hn : (ents (decide (f = [108])) (alt r) (alt (r.drop 1))).length ≤ 4 := by
          unfold ShB at hs
          rw [Bool.and_eq_true] at hs
          exact (of_decide_eq_true hs.1).2
        obtain ⟨q1, q2, q3⟩ := rp_sh (sh := ⟨decide (f = [108]), ents (decide (f = [108])) (alt r) (alt (r.drop 1))⟩) hn (ents_good (fun w h => wr w (mem_alt h)) fun w h => wr w (List.mem_of_mem_drop (mem_alt h)))
        exact ⟨q1, Nat.le_trans q2 (by decide), Nat.le_trans q3 (by rw [sizeLine_eq]; decide)⟩
    · rw [parse_none h]; exact no
/-! ### drawn sheets -/
theorem ex_words : ∀ {ys : List V}, (∀ y ∈ ys, ∃ w, y = V.str (S w) ∧ Wd w ∧ keyB w = true) → ∃ ws : List (List Nat), ys = (ws.map S).map V.str ∧ ∀ w ∈ ws, Wd w ∧ keyB w = true
  | [], _ => ⟨[], rfl, fun w h => nomatch h⟩
  | y :: r, h => by
    obtain ⟨w, rfl, hw⟩ := h y List.mem_cons_self
    obtain ⟨ws, rfl, h2⟩ := ex_words fun x hx => h x (List.mem_cons_of_mem _ hx)
    refine ⟨w :: ws, rfl, fun x hx => ?_⟩
    rcases List.mem_cons.mp hx with q | q
    · rw [q]; exact hw
    · exact h2 x q
theorem kinds2 : ∀ x ∈ [V.str (Str.ofString "leaf"), V.str (Str.ofString "fork")], ∃ b, x = V.str (kindS b) := by
  intro x hx
  simp only [List.mem_cons, List.not_mem_nil, or_false] at hx
  rcases hx with rfl | rfl
  · exact ⟨true, rfl⟩
  · exact ⟨false, rfl⟩
theorem kindS_fork (b : Bool) : decide (V.str (kindS b) = V.str (Str.ofString "fork")) = !b := by cases b <;> decide +kernel
theorem ranB_of {leaf : Bool} {es : List (List Nat × Tl)} (hk : ∀ e ∈ es, keyB e.1 = true) (ha : ascB (es.map (·.1)) = true) (ht : ∀ e ∈ es, tlB leaf e.2 = true) : ranB leaf [] es = true := by
  have k1 : es.all (fun e => keyB e.1) = true := List.all_eq_true.mpr hk
  have k2 : (es.map (·.1)).all keyB = true := by rw [List.all_map]; exact k1
  rw [ranB_eq, k1, asc_nil k2, ha, List.all_eq_true.mpr ht]
  rfl
theorem EnAt.but {a : Addr} {m : Nat} {H H' : Hp} {t : Addr} {e : List Nat × Tl} (hp : PotAt H a m) (h : EnAt H t e) (b : But a H H') : EnAt H' t e := by
  obtain ⟨o, x, c, _, _, _, _, _, _, hl⟩ := hp
  have ne : ∀ (c : Addr) (ys : List V), H c = some (.tup ys) → c ≠ a := fun c ys e q => by rw [q, hl] at e; exact nomatch e
  obtain ⟨v, q, r⟩ := h
  refine ⟨v, b _ _ (ne _ _ q) q, ?_⟩
  obtain ⟨w, tl⟩ := e
  cases tl with
  | tx l => exact r
  | no => exact r
  | pl i => exact r
  | nw i =>
    obtain ⟨c, e, q⟩ := r
    exact ⟨c, e, b _ _ (ne _ _ q) q⟩
theorem ab_ok : (wdOk [97] && (keyB [97] && (wdOk [98] && keyB [98]))) = true := by decide +kernel
theorem e_a : (Str.ofString "a" : Str) = S [97] := by decide +kernel
theorem e_b : (Str.ofString "b" : Str) = S [98] := by decide +kernel
theorem pl5 : ∀ x ∈ [V.int 0, V.int 7, V.int 12, V.int 511, V.int (10 ^ Int.toNat 10)], ∃ i : Int, x = V.int i ∧ 0 ≤ i ∧ i < 10 ^ 12 := by
  intro x hx
  simp only [List.mem_cons, List.not_mem_nil, or_false] at hx
  rcases hx with rfl | rfl | rfl | rfl | rfl <;> exact ⟨_, rfl, by decide, by decide⟩
theorem cut_words (ws : List (List Nat)) (lo hi : Option Int) : cutV (ws.map wV) lo hi = (((ws.drop (HT.sIx ws.length 0 lo)).take (HT.sIx ws.length ws.length hi - HT.sIx ws.length 0 lo))).map wV := by
  unfold cutV
  rw [List.length_map, ← List.map_drop, ← List.map_take]
theorem asc_take {l : List (List Nat)} (h : ascB l = true) (n : Nat) : ascB (l.take n) = true := ascB_pw.mpr ((ascB_pw.mp h).sublist (List.take_sublist n l))
theorem tgoS {ts : TS} {D : Ends} {σ : L2.St} {H : Hp} (R : L2.St → Hp → Prop) (h : ∀ nx : L2.St → Hp → Prop, (∀ σ' H', R σ' H' → nx σ' H') → ts { D with nx := nx } σ H) (k : ∀ σ' H', R σ' H' → D.nx σ' H') : ts D σ H := h D.nx k
/-- entries as they are drawn -/
def EnOk (leaf : Bool) (e : List Nat × Tl) : Prop := (Wd e.1 ∧ (leaf = true → ∃ l, e.2 = .tx l ∧ Wd l) ∧ (leaf = false → ∀ l, e.2 ≠ .tx l)) ∧ keyB e.1 = true ∧ tlB leaf e.2 = true ∧ ∀ i, (e.2 = .pl i → 0 ≤ i ∧ i < 10 ^ 12) ∧ (e.2 = .nw i → 0 ≤ i ∧ i < 5)
/-! ### lists of words made of lists of words -/
def cutW (ws : List (List Nat)) (lo hi : Option Int) : List (List Nat) := (ws.drop (HT.sIx ws.length 0 lo)).take (HT.sIx ws.length ws.length hi - HT.sIx ws.length 0 lo)
theorem cut_wV (ws : List (List Nat)) (lo hi : Option Int) : cutV (ws.map wV) lo hi = (cutW ws lo hi).map wV := cut_words ws lo hi
theorem mem_cutW {ws : List (List Nat)} {lo hi : Option Int} {x : List Nat} (h : x ∈ cutW ws lo hi) : x ∈ ws := List.mem_of_mem_drop (List.mem_of_mem_take h)
theorem len_cutW (ws : List (List Nat)) (lo hi : Option Int) : (cutW ws lo hi).length ≤ ws.length := by
  unfold cutW
  rw [List.length_take, List.length_drop]
  omega
def EvW (σ : L2.St) (H0 : Hp) (te : TE) (ws : List (List Nat)) : Prop := ∀ H N, Same H0 H → (∀ p H', Same H H' → H' p = some (.lst (ws.map wV)) → N (.ref p) H') → te σ H N
def EvO (σ : L2.St) (H0 : Hp) (tO : TO) (o : Option Int) : Prop := ∀ H N, Same H0 H → N o H → tO σ H N
section
variable {σ : L2.St} {H0 : Hp}
theorem evw_var {i : Nat} {p : Addr} {ws : List (List Nat)} (h1 : σ[i]? = some (some (.ref p))) (h2 : H0 p = some (.lst (ws.map wV))) : EvW σ H0 (tVar i) ws := fun H N s k => ⟨_, h1, k p H (Same.refl _) (s _ _ h2)⟩
theorem evo_no : EvO σ H0 tNoPart none := fun H N s k => k
theorem evo_c {i : Int} : EvO σ H0 (tPart (tC (.int i))) (some i) := fun H N s k => ⟨i, rfl, k⟩
theorem evo_v {i : Nat} {n : Int} (h : σ[i]? = some (some (.int n))) : EvO σ H0 (tPart (tVar i)) (some n) := fun H N s k => ⟨_, h, n, rfl, k⟩
theorem evo_v1 {i : Nat} {n j : Int} (h : σ[i]? = some (some (.int n))) : EvO σ H0 (tPart (tOp (rI0 fun i j => V.int (i + j)) (tVar i) (tC (.int j)))) (some (n + j)) := fun H N s k => ⟨_, h, _, _, rfl, rfl, n + j, rfl, k⟩
theorem evw_sl {K : PySem.W.Frag} {te : TE} {lo hi : TO} {ws : List (List Nat)} {a b : Option Int} (h : EvW σ H0 te ws) (hlo : EvO σ H0 lo a) (hhi : EvO σ H0 hi b) : EvW σ H0 (tSl (rSlL K) te lo hi) (cutW ws a b) := fun H N s k =>
  h H _ s fun p H1 s1 e1 => hlo H1 _ (s.trans s1) (hhi H1 _ (s.trans s1) ⟨p, _, rfl, SqL.of e1, fun q nq => k q _ (s1.put (s1.free nq)) (by rw [upd_same, cut_wV])⟩)
theorem evw_cat {t1 t2 : TE} {a b : List (List Nat)} (h1 : EvW σ H0 t1 a) (h2 : EvW σ H0 t2 b) (hl : a.length + b.length ≤ 1000) : EvW σ H0 (tOp rCat t1 t2) (a ++ b) := fun H N s k =>
  h1 H _ s fun p H1 s1 e1 => h2 H1 _ (s.trans s1) fun q H2 s2 e2 => ⟨p, q, _, _, rfl, rfl, s2 _ _ e1, e2, by rw [List.length_map, List.length_map, sizeLine_eq]; omega, fun r nr => k r _ ((s1.trans s2).put ((s1.trans s2).free nr)) (by rw [upd_same, List.map_append])⟩
theorem evw_one {i : Nat} {w : List Nat} (h : σ[i]? = some (some (.str (S w)))) : EvW σ H0 (tLst (tCons (tVar i) tNil)) [w] := fun H N s k => ⟨_, h, by show 1 ≤ sizeLine; decide, fun q nq => k q _ (Same.new nq) upd_same⟩
theorem evw_rev {K : PySem.W.Frag} {te : TE} {ws : List (List Nat)} (h : EvW σ H0 te ws) : EvW σ H0 (tRevL K te) ws.reverse := fun H N s k =>
  h H _ s fun p H1 s1 e1 => ⟨p, _, rfl, SqL.of e1, fun q nq => k q _ (s1.put (s1.free nq)) (by rw [upd_same, List.map_reverse])⟩
/-- a list of three of them -/
def EvR (H0 : Hp) (H : Hp) (p : Addr) (rs : List (List (List Nat))) : Prop := Same H0 H ∧ ∃ qs : List Addr, H p = some (.lst (qs.map V.ref)) ∧ Paired (fun (q : Addr) (r : List (List Nat)) => H q = some (.lst (r.map wV))) qs rs
theorem ev3 {t1 t2 t3 : TE} {a b c : List (List Nat)} (h1 : EvW σ H0 t1 a) (h2 : EvW σ H0 t2 b) (h3 : EvW σ H0 t3 c) {H : Hp} {N : V → Hp → Prop} (s : Same H0 H) (k : ∀ p H', Same H H' → EvR H0 H' p [a, b, c] → N (.ref p) H') : tLst (tCons t1 (tCons t2 (tCons t3 tNil))) σ H N :=
  h1 H _ s fun p H1 s1 e1 => h2 H1 _ (s.trans s1) fun q H2 s2 e2 => h3 H2 _ ((s.trans s1).trans s2) fun r H3 s3 e3 => ⟨by show 3 ≤ sizeLine; decide, fun z nz => by
    have st := (s1.trans s2).trans s3
    refine k z _ (st.put (st.free nz)) ⟨(s.trans st).trans (Same.new nz), [p, q, r], upd_same, ?_⟩
    exact .cons (Same.new nz _ _ (s3 _ _ (s2 _ _ e1))) (.cons (Same.new nz _ _ (s3 _ _ e2)) (.cons (Same.new nz _ _ e3) .nil))⟩
theorem paired_app {α β : Type} {F : α → β → Prop} : ∀ {a c : List α} {b d : List β}, Paired F a b → Paired F c d → Paired F (a ++ c) (b ++ d)
  | _, _, _, _, .nil, h => h
  | _, _, _, _, .cons h t, g => .cons h (paired_app t g)
end
theorem PotAt.nw {H : Hp} {a p : Addr} {m : Nat} {ws : List (List Nat)} (h : PotAt H a m) (e : H p = some (.lst (ws.map wV))) : p ≠ a := by
  obtain ⟨o, t, c, _, _, _, _, _, _, hl⟩ := h
  rintro rfl
  rw [hl] at e
  have e2 := HO.lst.inj (Option.some.inj e)
  cases ws with
  | nil => cases e2
  | cons w r => exact nomatch (List.cons.inj e2).1
theorem J10_le : ∀ {ws : List (List Nat)}, (∀ w ∈ ws, w.length ≤ 14) → (J10 ws).length ≤ 15 * ws.length
  | [], _ => Nat.zero_le _
  | [w], h => by
    have := h w List.mem_cons_self
    show w.length ≤ 15 * 1
    omega
  | w :: v :: r, h => by
    have h1 := h w List.mem_cons_self
    have h2 := J10_le (ws := v :: r) fun x hx => h x (List.mem_cons_of_mem _ hx)
    show (w ++ 10 :: J10 (v :: r)).length ≤ 15 * ((v :: r).length + 1)
    rw [List.length_append, List.length_cons (as := J10 (v :: r))]
    omega
theorem more11 : ∀ x ∈ [V.str (Str.ofString "l"), V.str (Str.ofString "f"), V.str (Str.ofString "a"), V.str (Str.ofString ""), V.str (Str.ofString "7"), V.str (Str.ofString "007"), V.str (Str.ofString "-1"), V.str (Str.ofString " "), V.str (Str.ofString "z z"), V.str (Str.ofString "1.5"), V.str (Str.ofString "zzzzzzzzzzzzzz")], ∃ w, x = V.str (S w) ∧ Wd w := by
  intro x hx
  have go : ∀ s : Str, wdOk s.cps.toList = true → ∃ w, V.str s = V.str (S w) ∧ Wd w := fun s h => ⟨s.cps.toList, by rw [S_of], wd_of h⟩
  simp only [List.mem_cons, List.not_mem_nil, or_false] at hx
  rcases hx with rfl | rfl | rfl | rfl | rfl | rfl | rfl | rfl | rfl | rfl | rfl <;> exact go _ (by decide +kernel)
/-- the rows near some words -/
def rowsOf (ws : List (List Nat)) (n : Int) (w : List Nat) : List (List (List Nat)) :=
  [cutW ws none (some n) ++ cutW ws (some (n + 1)) none, (cutW ws none (some n) ++ [w]) ++ cutW ws (some (n + 1)) none, cutW ws none (some (n + 1)) ++ cutW ws (some n) none] ++
  [ws ++ [w], cutW ws none (some 1) ++ (cutW ws (some 1) none).reverse, ((cutW ws none (some 1) ++ cutW ws (some 3) (some 5)) ++ cutW ws (some 1) (some 3)) ++ cutW ws (some 5) none]
theorem six_nn {n d : Nat} {i : Int} (h : 0 ≤ i) : HT.sIx n d (some i) = min i.toNat n := by
  show (if i < 0 then _ else _) = _
  rw [if_neg (by omega)]
theorem rows_ok {ws : List (List Nat)} {n : Int} {w : List Nat} (hw : ∀ x ∈ ws, Wd x) (hn : 2 ≤ ws.length) (hn2 : ws.length ≤ 10) (h0 : 0 ≤ n) (h1 : n < ws.length) (ww : Wd w) : ∀ r ∈ rowsOf ws n w, r ≠ [] ∧ (∀ x ∈ r, Wd x) ∧ r.length ≤ 60 := by
  have cw : ∀ {lo hi : Option Int}, ∀ x ∈ cutW ws lo hi, Wd x := fun x hx => hw x (mem_cutW hx)
  have cl : ∀ lo hi : Option Int, (cutW ws lo hi).length ≤ 10 := fun lo hi => Nat.le_trans (len_cutW _ _ _) hn2
  have app : ∀ {a b : List (List Nat)}, (∀ x ∈ a, Wd x) → (∀ x ∈ b, Wd x) → ∀ x ∈ a ++ b, Wd x := fun ha hb x hx => (List.mem_append.mp hx).elim (ha x) (hb x)
  have one : ∀ x ∈ [w], Wd x := fun x hx => by rw [List.mem_singleton.mp hx]; exact ww
  have c1 : (cutW ws none (some 1)).length = 1 := by
    unfold cutW
    rw [six_nn (by decide), HT.sIx_none, List.length_take, List.length_drop]
    show min (min 1 ws.length - 0) (ws.length - 0) = 1
    omega
  have ne : ∀ {r : List (List Nat)}, 1 ≤ r.length → r ≠ [] := fun h e => by rw [e] at h; exact absurd h (by decide)
  have l1 := cl none (some n)
  have l2 := cl (some (n + 1)) none
  have l3 := cl none (some (n + 1))
  have l4 := cl (some n) none
  have l5 := cl (some 1) none
  have l6 := cl (some 3) (some 5)
  have l7 := cl (some 1) (some 3)
  have l8 := cl (some 5) none
  intro r hr
  simp only [rowsOf, List.cons_append, List.nil_append, List.mem_cons, List.not_mem_nil, or_false] at hr
  rcases hr with rfl | rfl | rfl | rfl | rfl | rfl
  · refine ⟨ne ?_, app cw cw, by rw [List.length_append]; omega⟩
    unfold cutW
    rw [six_nn h0, six_nn (by omega), HT.sIx_none, HT.sIx_none, List.length_append, List.length_take, List.length_take, List.length_drop, List.length_drop]
    omega
  · exact ⟨ne (by rw [List.length_append, List.length_append]; show 1 ≤ _ + 1 + _; omega), app (app cw one) cw, by rw [List.length_append, List.length_append]; show _ + 1 + _ ≤ 60; omega⟩
  · refine ⟨ne ?_, app cw cw, by rw [List.length_append]; omega⟩
    unfold cutW
    rw [six_nn h0, six_nn (by omega), HT.sIx_none, HT.sIx_none, List.length_append, List.length_take, List.length_take, List.length_drop, List.length_drop]
    omega
  · exact ⟨ne (by rw [List.length_append]; show 1 ≤ _ + 1; omega), app hw one, by rw [List.length_append]; show _ + 1 ≤ 60; omega⟩
  · exact ⟨ne (by rw [List.length_append, c1]; omega), app cw (fun x hx => cw x (List.mem_reverse.mp hx)), by rw [List.length_append, c1, List.length_reverse]; omega⟩
  · exact ⟨ne (by rw [List.length_append, List.length_append, List.length_append, c1]; omega), app (app (app cw cw) cw) cw, by rw [List.length_append, List.length_append, List.length_append, c1]; omega⟩
theorem join_room {r : List (List Nat)} (hw : ∀ x ∈ r, Wd x) (hl : r.length ≤ 60) : ((r.map S).map (·.length)).sum + (r.map S).length * (Str.ofString "\n").length ≤ 16777216 := by
  have l2 := sum_le (k := 14) (l := (r.map S).map (·.length)) (fun x hx => by
    obtain ⟨y, hy, rfl⟩ := List.mem_map.mp hx
    obtain ⟨z, hz, rfl⟩ := List.mem_map.mp hy
    rw [S_len]
    exact (hw z hz).ln)
  rw [List.length_map, List.length_map] at l2
  rw [e_nl, List.length_map]
  show _ + r.length * 1 ≤ _
  omega
theorem ShAt.but {a q : Addr} {m : Nat} {H H' : Hp} {sh : Sh} (hp : PotAt H a m) (h : ShAt H q sh) (b : But a H H') : ShAt H' q sh := by
  have hp' := hp
  obtain ⟨o, x, c, _, _, _, _, _, _, hl⟩ := hp'
  have ne : ∀ (c : Addr) (ys : List V), H c = some (.tup ys) → c ≠ a := fun c ys e q => by rw [q, hl] at e; exact nomatch e
  obtain ⟨b1, ts, h1, h2, h3⟩ := h
  exact ⟨b1, ts, b _ _ (ne _ _ h1) h1, b _ _ (ne _ _ h2) h2, Paired.mono (fun _ _ e => EnAt.but hp e b) h3⟩
theorem J10_bd : ∀ (w : List Nat) (r : List (List Nat)), (∀ x ∈ r, x.length ≤ 13) → (J10 (w :: r)).length ≤ w.length + 14 * r.length
  | w, [], _ => Nat.le_refl _
  | w, v :: r, h => by
    have h1 := h v List.mem_cons_self
    have h2 := J10_bd v r fun x hx => h x (List.mem_cons_of_mem _ hx)
    show (w ++ 10 :: J10 (v :: r)).length ≤ w.length + 14 * (r.length + 1)
    rw [List.length_append, List.length_cons (as := J10 (v :: r))]
    omega
theorem ex_ints : ∀ {ys : List V}, (∀ y ∈ ys, ∃ n : Int, y = V.int n ∧ 0 ≤ n ∧ n < 600) → ∃ ps : List Int, ys = ps.map V.int ∧ ∀ i ∈ ps, 0 ≤ i ∧ i < 10 ^ 12
  | [], _ => ⟨[], rfl, fun w h => nomatch h⟩
  | y :: r, h => by
    obtain ⟨n, rfl, h0, h1⟩ := h y List.mem_cons_self
    obtain ⟨ps, rfl, h2⟩ := ex_ints fun x hx => h x (List.mem_cons_of_mem _ hx)
    refine ⟨n :: ps, rfl, fun x hx => ?_⟩
    rcases List.mem_cons.mp hx with q | q
    · rw [q]; exact ⟨h0, by omega⟩
    · exact h2 x q
theorem due_len {sh : Sh} {ps : List Int} (fm : FmS sh.leaf sh.es) (hn : sh.es.length ≤ 4) (hok : ShB sh = true) (hp : ∀ i ∈ ps, 0 ≤ i ∧ i < 10 ^ 12) (hnw : ∀ e ∈ sh.es, ∀ i, (e.2 = .pl i → 0 ≤ i ∧ i < 10 ^ 12) ∧ (e.2 = .nw i → 0 ≤ i ∧ i < ps.length)) : (J10 (wordsOf sh ps)).length ≤ 113 ∧ 2 ≤ (wordsOf sh ps).length ∧ (wordsOf sh ps).length ≤ 10 := by
  unfold ShB at hok
  rw [Bool.and_eq_true] at hok
  obtain ⟨q1, q2⟩ := hok
  have c := of_decide_eq_true q1
  rw [ranB_eq, Bool.and_eq_true, Bool.and_eq_true] at q2
  obtain ⟨a1, _, a3⟩ := q2
  have c1 : 1 ≤ sh.es.length := by
    have := c.1
    cases hh : sh.leaf <;> simp [hh] at this <;> omega
  have ln : (wordsOf sh ps).length = 1 + 2 * sh.es.length := by
    unfold wordsOf
    rw [List.length_cons, flat_len _ 2 _ (fun _ => rfl)]
    omega
  refine ⟨?_, by omega, by omega⟩
  have bd := J10_bd (if sh.leaf = true then [108] else [102]) (sh.es.flatMap fun e => [e.1, tellW ps e.2]) fun x hx => by
    obtain ⟨e, he, hm⟩ := List.mem_flatMap.mp hx
    have k1 := (of_decide_eq_true (List.all_eq_true.mp a1 e he)).2.1
    have t1 := List.all_eq_true.mp a3 e he
    rcases List.mem_cons.mp hm with z | z
    · rw [z]; exact k1
    · rw [List.mem_singleton.mp z]
      obtain ⟨kk, tl⟩ := e
      cases tl with
      | tx l =>
        rw [show tlB sh.leaf (Tl.tx l) = (sh.leaf && valB l) from rfl, Bool.and_eq_true] at t1
        exact (of_decide_eq_true t1.2).2
      | no => exact Nat.zero_le _
      | pl i =>
        obtain ⟨r1, r2⟩ := (hnw _ he i).1 rfl
        exact Nat.le_trans (digW_len r1 r2) (by decide)
      | nw i =>
        obtain ⟨r1, r2⟩ := (hnw _ he i).2 rfl
        have hm : ps.getD i.toNat 0 ∈ ps := by
          rw [List.getD, List.getElem?_eq_getElem (by omega)]
          exact List.getElem_mem _
        obtain ⟨r3, r4⟩ := hp _ hm
        exact Nat.le_trans (digW_len r3 r4) (by decide)
  rw [flat_len _ 2 _ (fun _ => rfl)] at bd
  have l1 : (if sh.leaf = true then [108] else [102] : List Nat).length = 1 := by cases sh.leaf <;> rfl
  rw [l1] at bd
  show (J10 ((if sh.leaf = true then [108] else [102]) :: sh.es.flatMap fun e => [e.1, tellW ps e.2])).length ≤ 113
  omega
theorem str_ne (x : Str) : (!decide (V.str x = V.str x)) = false := by rw [decide_eq_true rfl]; rfl
end
def sp_is_integer : Sp := fun vs H Q _ => ∃ o : Option Int, vs = [optV o] ∧ Q (.bl o.isSome) H
def sp_is_from : Sp := fun vs H Q _ => ∃ (o : Option Int) (j : Int), vs = [optV o, .int j] ∧ Q (.bl (match o with | some i => decide (j ≤ i) | none => false)) H
def sp_has_only : Sp := fun vs H Q _ => ∃ l m : List Nat, vs = [V.str (S l), V.str (S m)] ∧ l.length ≤ 100000 ∧ Q (.bl (decide (∀ c ∈ l, c ∈ m))) H
def sp_number_in : Sp := fun vs H Q _ => ∃ w : List Nat, vs = [V.str (S w)] ∧ Wd w ∧ Q (optV (telN w)) H
def sp_are_signs : Sp := fun vs H Q _ => ∃ (w : List Nat) (lo hi : Int), vs = [V.str (S w), V.int lo, V.int hi] ∧ Wd w ∧ Q (.bl (decide (lo ≤ w.length ∧ w.length ≤ hi))) H
def sp_is_page_text : Sp := fun vs H Q _ => ∃ l : List Nat, vs = [V.str (S l)] ∧ l.length ≤ 100000 ∧ ∀ H2, Same H H2 → Q (.bl (decide (l.length ≤ 113 ∧ ∀ c ∈ l, WM.okc c))) H2
def sp_is_key : Sp := fun vs H Q _ => ∃ w : List Nat, vs = [V.str (S w)] ∧ Wd w ∧ Q (.bl (keyB w)) H
def sp_is_value : Sp := fun vs H Q _ => ∃ w : List Nat, vs = [V.str (S w)] ∧ Wd w ∧ Q (.bl (valB w)) H
def sp_is_child : Sp := fun vs H Q _ => ∃ (v : V) (t : Tl), vs = [v] ∧ TlAt H v t ∧ (∀ l, t ≠ .tx l) ∧ Q (.bl (tlB false t)) H
def sp_is_sheet : Sp := fun vs H Q _ => ∃ (a : Addr) (sh : Sh), vs = [V.ref a] ∧ ShAt H a sh ∧ FmS sh.leaf sh.es ∧ sh.es.length ≤ 1000 ∧ ∀ H2, Same H H2 → Q (.bl (ShB sh)) H2
def sp_sheet_of : Sp := fun vs H Q _ => ∃ ws : List (List Nat), vs = [V.str (S (J10 ws))] ∧ ws ≠ [] ∧ (∀ w ∈ ws, Wd w) ∧ (J10 ws).length ≤ 900 ∧ ∀ v H2, Same H H2 → ShV H2 v (parse ws) → Q v H2
def sp_sheet_in : Sp := fun vs H Q _ => ∃ ws : List (List Nat), vs = [V.str (S (J10 ws))] ∧ ws ≠ [] ∧ (∀ w ∈ ws, Wd w) ∧ (J10 ws).length ≤ 113 ∧ ∀ v H2, Same H H2 → ShV H2 v (parse ws) → Q v H2
def sp_written : Sp := fun vs H Q _ => ∃ (a b : Addr) (sh : Sh) (ps : List Int), vs = [V.ref a, V.ref b] ∧ ShAt H a sh ∧ FmS sh.leaf sh.es ∧ sh.es.length ≤ 4 ∧ ShB sh = true ∧ H b = some (.tup (ps.map V.int)) ∧ ps.length ≤ 10 ∧ (∀ i ∈ ps, 0 ≤ i ∧ i < 10 ^ 12) ∧ (∀ e ∈ sh.es, ∀ i, (e.2 = .pl i → 0 ≤ i ∧ i < 10 ^ 12) ∧ (e.2 = .nw i → 0 ≤ i ∧ i < ps.length)) ∧ ∀ H2, Same H H2 → Q (.str (S (J10 (wordsOf sh ps)))) H2
def sp_law_pot (K : PySem.W.Frag) : Sp := fun vs H Q _ => ∃ (a : Addr) (xs : List Int) (p : Nat), vs = [V.ref a, V.int p] ∧ SqL K H a (xs.map V.int) ∧ p < 100 ∧ ∀ (q : Addr) H2, Same H H2 → H q = none → PotAt H2 q 9000 → Q (.ref q) H2
def sp_law_take : Sp := fun vs H Q _ => ∃ (a : Addr) (u : Int) (m : Nat), vs = [V.ref a, V.int u] ∧ 1 ≤ u ∧ u < 1000000 ∧ PotAt H a (m + 1) ∧ ∀ (d : Int) H2, But a H H2 → PotAt H2 a m → 0 ≤ d → d < u → Q (.int d) H2
def sp_law_of : Sp := fun vs H Q _ => ∃ (a : Addr) (v : V) (m : Nat), vs = [V.ref a, v] ∧ PotAt H a (m + 1) ∧ ((∃ (b : Addr) (xs : List V), v = .ref b ∧ b ≠ a ∧ H b = some (.lst xs) ∧ 1 ≤ xs.length ∧ xs.length ≤ 1000 ∧ ∀ x H2, x ∈ xs → But a H H2 → PotAt H2 a m → Q x H2) ∨ ∃ l : List Nat, v = .str (S l) ∧ 1 ≤ l.length ∧ l.length ≤ 1000 ∧ ∀ c H2, c ∈ l → But a H H2 → PotAt H2 a m → Q (.str (S [c])) H2)
def sp_law_cells (K : PySem.W.Frag) : Sp := fun vs H Q _ => ∃ (a : Addr) (xs : List Int) (m : Nat), vs = [V.ref a, V.int m] ∧ SqL K H a (xs.map V.int) ∧ 1 ≤ m ∧ m ≤ 10 ∧ ∀ (n : Nat) q H2, n ≤ 10 → Same H H2 → H q = none → H2 q = some (.lst ((List.range n).map fun i => V.int (i : Nat))) → Q (.ref q) H2
def sp_law_map_is_key : Sp := fun vs H Q _ => ∃ w : List Nat, vs = [V.str (S w)] ∧ Wd w ∧ ∀ H2, Same H H2 → Q (.bl (keyB w)) H2
def sp_law_map_is_value : Sp := fun vs H Q _ => ∃ w : List Nat, vs = [V.str (S w)] ∧ Wd w ∧ ∀ H2, Same H H2 → Q (.bl (valB w)) H2
def sp_law_map_number : Sp := fun vs H Q _ => ∃ w : List Nat, vs = [V.str (S w)] ∧ Wd w ∧ ∀ H2, Same H H2 → Q (optV (telN w)) H2
def sp_law_map_sheet : Sp := fun vs H Q _ => ∃ ws : List (List Nat), vs = [V.str (S (J10 ws))] ∧ ws ≠ [] ∧ (∀ w ∈ ws, Wd w) ∧ (J10 ws).length ≤ 900 ∧ ∀ v H2, Same H H2 → ShL H2 v (parse ws) → Q v H2
def sp_law_map_key_drawn : Sp := fun vs H Q _ => ∃ (a : Addr) (m : Nat), vs = [V.ref a] ∧ PotAt H a (m + 3) ∧ ∀ w H2, Wd w → keyB w = true → But a H H2 → PotAt H2 a m → Q (.str (S w)) H2
def sp_law_map_value_drawn : Sp := fun vs H Q _ => ∃ (a : Addr) (m : Nat), vs = [V.ref a] ∧ PotAt H a (m + 2) ∧ ∀ w H2, Wd w → valB w = true → But a H H2 → PotAt H2 a m → Q (.str (S w)) H2
def sp_law_sheet : Sp := fun vs H Q _ => ∃ (a : Addr) (m : Nat), vs = [V.ref a] ∧ PotAt H a (m + 30) ∧ ∀ (q : Addr) (sh : Sh) H2, But a H H2 → PotAt H2 a m → ShAt H2 q sh → FmS sh.leaf sh.es → sh.es.length ≤ 4 → ShB sh = true → (∀ e ∈ sh.es, ∀ i, (e.2 = .pl i → 0 ≤ i ∧ i < 10 ^ 12) ∧ (e.2 = .nw i → 0 ≤ i ∧ i < 5)) → Q (.ref q) H2
def sp_law_text : Sp := fun vs H Q _ => ∃ (a b : Addr) (sh : Sh) (ps : List Int), vs = [V.ref a, V.ref b] ∧ ShAt H a sh ∧ FmS sh.leaf sh.es ∧ sh.es.length ≤ 4 ∧ ShB sh = true ∧ H b = some (.tup (ps.map V.int)) ∧ ps.length ≤ 10 ∧ (∀ i ∈ ps, 0 ≤ i ∧ i < 10 ^ 12) ∧ (∀ e ∈ sh.es, ∀ i, (e.2 = .pl i → 0 ≤ i ∧ i < 10 ^ 12) ∧ (e.2 = .nw i → 0 ≤ i ∧ i < ps.length)) ∧ ∀ H2, Same H H2 → Q (.str (S (J10 (wordsOf sh ps)))) H2
def sp_law_read : Sp := fun vs H Q _ => ∃ ws : List (List Nat), vs = [V.str (S (J10 ws))] ∧ ws ≠ [] ∧ (∀ w ∈ ws, Wd w) ∧ (J10 ws).length ≤ 900 ∧ ∀ v H2, Same H H2 → ShV H2 v (parse ws) → Q v H2
def sp_law_near : Sp := fun vs H Q _ => ∃ (a : Addr) (m : Nat) (ws : List (List Nat)), vs = [V.ref a, V.str (S (J10 ws))] ∧ PotAt H a (m + 30) ∧ 2 ≤ ws.length ∧ ws.length ≤ 10 ∧ (∀ w ∈ ws, Wd w) ∧ ∀ (p : Addr) (tw : List (List (List Nat))) H2, But a H H2 → PotAt H2 a m → p ≠ a → H2 p = some (.lst (tw.map fun ws => V.str (S (J10 ws)))) → tw.length ≤ 8 → (∀ x ∈ tw, x ≠ [] ∧ (∀ w ∈ x, Wd w) ∧ (J10 x).length ≤ 113) → Q (.ref p) H2
def sp_law_right : Sp := fun vs H Q _ => ∃ (a : Addr) (m : Nat), vs = [V.ref a] ∧ PotAt H a (m + 2000) ∧ ∀ H2, But a H H2 → Q (.bl true) H2
def sp_law (K : PySem.W.Frag) : Sp := fun vs H Q _ => ∃ (a : Addr) (ns : List Int), vs = [V.ref a] ∧ SqL K H a (ns.map V.int) ∧ ∀ H2, Q (.bl true) H2
section
variable {P : Program} {w : World} {K : PySem.W.Frag} {mg : Str → Option Value} {base : Heap}
end
section
variable {P : Program} {w : World} {K : PySem.W.Frag} {mg : Str → Option Value} {base : Heap}
theorem ok_is_integer {f : Addr} {fd : FuncData} (T : Txt K w mg) (F : FD K "is_integer" s_is_integer f fd) (hm : mg "is_integer" = some (.ref f)) : Cg P w K mg base 1 "is_integer" ["value"] sp_is_integer := by
  refine cg_of F hm sc_is_integer (fun vs H Q E h => ?_) (fun _ _ _ _ _ _ us hl => match us, hl with | [_], _ => rfl) (fun _ _ _ _ _ _ us hl => match us, hl with | [_], _ => rfl) (fun cdv A outer s H vs Q E hG hr h => ?_)
  · obtain ⟨o, rfl, _⟩ := h
    rfl
  · obtain ⟨o, rfl, k⟩ := h
    refine ⟨_, (pss_one (ps_ret (pe_and (pe_callB call_isi (by rfl) T.f_isinstance (by decide +kernel) (pa_cons (pv 0) (pa_cons (pe_bltn (v := .ty "int") rfl T.f_int (by decide +kernel) rfl) pa_nil))) (pe_one (pe_not (pe_callB call_isi (by rfl) T.f_isinstance (by decide +kernel) (pa_cons (pv 0) (pa_cons (pe_bltn (v := .ty "bool") rfl T.f_bool (by decide +kernel) rfl) pa_nil)))))))), ?_⟩
    cases o with
    | none => exact ⟨_, rfl, _, _, _, _, false, rfl, .ty _, .base .non, kit_ty (by decide +kernel), _, rfl, iteF k⟩
    | some i =>
      refine ⟨_, rfl, _, _, _, _, true, rfl, .ty _, .base (.int _), kit_ty (by decide +kernel), _, rfl, iteT ?_⟩
      exact ⟨_, rfl, _, _, _, _, false, rfl, .ty _, .base (.int _), kit_ty (by decide +kernel), _, rfl, k⟩
theorem ok_is_from {f : Addr} {fd : FuncData} (T : Txt K w mg) (F : FD K "is_from" s_is_from f fd) (hm : mg "is_from" = some (.ref f)) (c_is_integer : Cg P w K mg base 1 "is_integer" ["value"] sp_is_integer) : Cg P w K mg base 2 "is_from" ["value", "low"] sp_is_from := by
  refine cg_of F hm sc_is_from (fun vs H Q E h => ?_) (fun _ _ _ _ _ _ us hl => match us, hl with | [_, _], _ => rfl) (fun _ _ _ _ _ _ us hl => match us, hl with | [_, _], _ => rfl) (fun cdv A outer s H vs Q E hG hr h => ?_)
  · obtain ⟨o, j, rfl, _⟩ := h
    rfl
  · obtain ⟨o, j, rfl, k⟩ := h
    refine ⟨_, (pss_one (ps_ret (pe_and (pe_g c_is_integer hG hr (by decide) rfl (pa_cons (pv 0) pa_nil)) (pe_one (pe_cmpR op_le (pv 1) (pv 0) (nomark _)))))), ?_⟩
    refine ⟨_, rfl, o, rfl, _, rfl, ?_⟩
    cases o with
    | none => exact iteF k
    | some i => exact iteT ⟨_, rfl, _, rfl, _, _, rfl, rfl, k⟩
theorem ok_has_only {f : Addr} {fd : FuncData} (T : Txt K w mg) (F : FD K "has_only" s_has_only f fd) (hm : mg "has_only" = some (.ref f)) : Cg P w K mg base 1 "has_only" ["text", "signs"] sp_has_only := by
  refine cg_of F hm sc_has_only (fun vs H Q E h => ?_) (fun _ _ _ _ _ _ us hl => match us, hl with | [_, _], _ => rfl) (fun _ _ _ _ _ _ us hl => match us, hl with | [_, _], _ => rfl) (fun cdv A outer s H vs Q E hG hr h => ?_)
  · obtain ⟨l, m, rfl, _⟩ := h
    rfl
  · obtain ⟨l, m, rfl, hl, k⟩ := h
    refine ⟨_, (pss_one (ps_ret (pe_cmpR op_eq (pe_bm PySem.F.plainAttrs_str PySem.F.slot_str_strip PySem.F.type_str_strip mt_stripChars (pv 0) (pa_cons (pv 1) pa_nil)) pe_str (nomark _)))), ?_⟩
    refine ⟨_, rfl, rfl, _, rfl, _, _, rfl, rfl, (by rw [S_len, sizeLine_eq]; omega), rfl, ?_⟩
    rw [strip_dec]
    exact k
theorem ok_number_in {f : Addr} {fd : FuncData} (T : Txt K w mg) (F : FD K "number_in" s_number_in f fd) (hm : mg "number_in" = some (.ref f)) (c_has_only : Cg P w K mg base 1 "has_only" ["text", "signs"] sp_has_only) : Cg P w K mg base 2 "number_in" ["word"] sp_number_in := by
  refine cg_of F hm sc_number_in (fun vs H Q E h => ?_) (fun _ _ _ _ _ _ us hl => match us, hl with | [_], _ => rfl) (fun _ _ _ _ _ _ us hl => match us, hl with | [_], _ => rfl) (fun cdv A outer s H vs Q E hG hr h => ?_)
  · obtain ⟨w, rfl, _⟩ := h
    rfl
  · obtain ⟨w, rfl, hw, k⟩ := h
    refine ⟨_, (pss_cons (ps_if (PW.pt (pw_or (pt_cmpR op_eq (pv 0) pe_str (nomark _)) (pw_or1 (pt_not (pt_val (pe_g c_has_only hG hr (by decide) rfl (pa_cons (pv 0) (pa_cons (C8.pe_gc rfl T.g_FIGURES) pa_nil)))))))) (pss_one (ps_ret pe_non)) pss_nil)
      (pss_cons (ps_if (PW.pt (pw_and (pt_cmpR op_eq (pe_ix ix_str (pv 0) pe_int (fun _ _ => rfl)) pe_str (nomark _)) (pw_and1 (pt_cmpR op_ne (pv 0) pe_str (nomark _))))) (pss_one (ps_ret pe_non)) pss_nil)
      (pss_one (ps_ret (pe_callTy call_int_str (by rfl) T.f_int (by decide +kernel) (pa_cons (pv 0) pa_nil)))))), ?_⟩
    have hl := hw.ln
    have zw : (S w).length ≤ sizeLine := by rw [S_len, sizeLine_eq]; omega
    refine ⟨_, rfl, rfl, _, rfl, ?_⟩
    rw [e_nil, S_dec]
    by_cases h0 : w = []
    · rw [decide_eq_true h0]
      have tn : telN w = none := telN_none (fun q => q.1 h0)
      rw [tn] at k
      exact iteT (iteT k)
    rw [decide_eq_false h0]
    refine iteF ⟨_, rfl, w, _, rfl, by omega, _, rfl, ?_⟩
    by_cases hd : ∀ c ∈ w, c ∈ ([48, 49, 50, 51, 52, 53, 54, 55, 56, 57] : List Nat)
    rotate_left
    · rw [decide_eq_false hd]
      have tn : telN w = none := telN_none (fun q => hd fun c hc => (mem_fig c).mpr (q.2.1 c hc))
      rw [tn] at k
      exact iteT k
    rw [decide_eq_true hd]
    have hd2 : ∀ c ∈ w, 48 ≤ c ∧ c ≤ 57 := fun c hc => (mem_fig c).mp (hd c hc)
    refine iteF ?_
    obtain ⟨c, r, rfl⟩ : ∃ c r, w = c :: r := by
      cases w with
      | nil => exact absurd rfl h0
      | cons c r => exact ⟨c, r, rfl⟩
    refine ⟨_, rfl, _, 0, c, rfl, rfl, zw, (by rw [S_cps]; exact atI_nat (j := 0) rfl), rfl, _, rfl, ?_⟩
    rw [← S_one, e_0, S_dec]
    by_cases h1 : c = 48
    rotate_left
    · rw [decide_eq_false (show ¬ [c] = [48] from fun q => h1 (List.cons.inj q).1)]
      have tn : telN (c :: r) = some (valN (c :: r)) := telN_some ⟨h0, hd2, fun q => absurd (Option.some.inj q) h1⟩
      rw [tn] at k
      exact iteF (iteF ⟨_, rfl, _, _, rfl, intT h0 hd2 (by omega), (by rw [S_len]; omega), k⟩)
    rw [decide_eq_true (show [c] = [48] by rw [h1])]
    refine iteT ⟨_, rfl, rfl, _, rfl, ?_⟩
    rw [S_dec]
    by_cases h2 : c :: r = [48]
    · rw [decide_eq_true h2]
      have tn : telN (c :: r) = some (valN (c :: r)) := telN_some ⟨h0, hd2, fun _ => h2⟩
      rw [tn] at k
      exact iteF ⟨_, rfl, _, _, rfl, intT h0 hd2 (by omega), (by rw [S_len]; omega), k⟩
    · rw [decide_eq_false h2]
      have tn : telN (c :: r) = none := telN_none (fun q => h2 (q.2.2 (by rw [h1]; rfl)))
      rw [tn] at k
      exact iteT k
theorem ok_are_signs {f : Addr} {fd : FuncData} (T : Txt K w mg) (F : FD K "are_signs" s_are_signs f fd) (hm : mg "are_signs" = some (.ref f)) (c_has_only : Cg P w K mg base 1 "has_only" ["text", "signs"] sp_has_only) : Cg P w K mg base 2 "are_signs" ["value", "least", "most"] sp_are_signs := by
  refine cg_of F hm sc_are_signs (fun vs H Q E h => ?_) (fun _ _ _ _ _ _ us hl => match us, hl with | [_, _, _], _ => rfl) (fun _ _ _ _ _ _ us hl => match us, hl with | [_, _, _], _ => rfl) (fun cdv A outer s H vs Q E hG hr h => ?_)
  · obtain ⟨w, lo, hi, rfl, _⟩ := h
    rfl
  · obtain ⟨w, lo, hi, rfl, hw, k⟩ := h
    refine ⟨_, (pss_one (ps_ret (pe_and (pe_callB call_isi (by rfl) T.f_isinstance (by decide +kernel) (pa_cons (pv 0) (pa_cons (pe_bltn (v := .ty "str") rfl T.f_str (by decide +kernel) rfl) pa_nil))) (pe_and (pe_chain op_le op_le (pv 1) (pe_callB call_len_str (by rfl) T.f_len PySem.boot_len (pa_cons (pv 0) pa_nil)) (pv 2)) (pe_one (pe_g c_has_only hG hr (by decide) rfl (pa_cons (pv 0) (pa_cons (C8.pe_gc rfl T.g_SIGNS) pa_nil)))))))), ?_⟩
    have hl := hw.ln
    have zw : (S w).length ≤ sizeLine := by rw [S_len, sizeLine_eq]; omega
    refine ⟨_, rfl, _, _, _, _, true, rfl, .ty _, .base (.str _), kit_ty (by decide +kernel), _, rfl, iteT ?_⟩
    refine ⟨_, rfl, _, rfl, _, rfl, zw, _, _, rfl, rfl, _, rfl, ?_⟩
    rw [S_len]
    by_cases h1 : lo ≤ (w.length : Int)
    rotate_left
    · rw [decide_eq_false h1]
      rw [decide_eq_false (show ¬ (lo ≤ (w.length : Int) ∧ (w.length : Int) ≤ hi) from fun q => h1 q.1)] at k
      exact iteF ⟨_, rfl, iteF k⟩
    rw [decide_eq_true h1]
    refine iteT ⟨_, rfl, _, _, rfl, rfl, _, rfl, ?_⟩
    by_cases h2 : (w.length : Int) ≤ hi
    rotate_left
    · rw [decide_eq_false h2]
      rw [decide_eq_false (show ¬ (lo ≤ (w.length : Int) ∧ (w.length : Int) ≤ hi) from fun q => h2 q.2)] at k
      exact iteF k
    rw [decide_eq_true h2]
    rw [decide_eq_true (show (lo ≤ (w.length : Int) ∧ (w.length : Int) ≤ hi) from ⟨h1, h2⟩)] at k
    refine iteT ⟨_, rfl, w, SIGNL, rfl, by omega, ?_⟩
    rw [decide_eq_true (all_signs hw)]
    exact k
theorem ok_is_page_text {f : Addr} {fd : FuncData} (T : Txt K w mg) (F : FD K "is_page_text" s_is_page_text f fd) (hm : mg "is_page_text" = some (.ref f)) (c_has_only : Cg P w K mg base 1 "has_only" ["text", "signs"] sp_has_only) : Cg P w K mg base 2 "is_page_text" ["value"] sp_is_page_text := by
  refine cg_of F hm sc_is_page_text (fun vs H Q E h => ?_) (fun _ _ _ _ _ _ us hl => match us, hl with | [_], _ => rfl) (fun _ _ _ _ _ _ us hl => match us, hl with | [_], _ => rfl) (fun cdv A outer s H vs Q E hG hr h => ?_)
  · obtain ⟨l, rfl, _⟩ := h
    rfl
  · obtain ⟨l, rfl, hl, k⟩ := h
    refine ⟨_, (pss_one (ps_ret (pe_and (pe_callB call_isi (by rfl) T.f_isinstance (by decide +kernel) (pa_cons (pv 0) (pa_cons (pe_bltn (v := .ty "str") rfl T.f_str (by decide +kernel) rfl) pa_nil))) (pe_and (pe_cmpR op_le (pe_callB call_len_str (by rfl) T.f_len PySem.boot_len (pa_cons (pv 0) pa_nil)) (C8.pe_gc rfl T.g_MOST_PAGE_TEXT) (nomark _)) (pe_one (pe_g c_has_only hG hr (by decide) rfl (pa_cons (pv 0) (pa_cons (pe_op op_add_str (C8.pe_gc rfl T.g_SIGNS) pe_str) pa_nil)))))))), ?_⟩
    refine ⟨_, rfl, _, _, _, _, true, rfl, .ty _, .base (.str _), kit_ty (by decide +kernel), _, rfl, iteT ?_⟩
    refine ⟨_, rfl, _, rfl, by rw [S_len, sizeLine_eq]; omega, _, _, rfl, rfl, _, rfl, ?_⟩
    rw [S_len]
    by_cases h : l.length ≤ 113
    · rw [decide_eq_true (show (l.length : Int) ≤ (113 : Int) by omega)]
      have en : (Str.ofString "\n" : Str) = S [10] := by decide +kernel
      refine iteT ⟨_, rfl, (S SIGNL : Str), (Str.ofString "\n" : Str), rfl, rfl, by rw [en, S_len, S_len, sizeLine_eq]; decide, l, SIGNL ++ [10], by rw [en, S_app], hl, ?_⟩
      rw [all_signl]
      rw [show decide (l.length ≤ 113 ∧ ∀ c ∈ l, WM.okc c) = decide (∀ c ∈ l, WM.okc c) by simp [h]] at k
      exact k _ (Same.refl _)
    · rw [decide_eq_false (show ¬ (l.length : Int) ≤ (113 : Int) by omega)]
      refine iteF ?_
      rw [decide_eq_false (show ¬ (l.length ≤ 113 ∧ ∀ c ∈ l, WM.okc c) from fun z => h z.1)] at k
      exact k _ (Same.refl _)
theorem ok_is_key {f : Addr} {fd : FuncData} (T : Txt K w mg) (F : FD K "is_key" s_is_key f fd) (hm : mg "is_key" = some (.ref f)) (c_are_signs : Cg P w K mg base 2 "are_signs" ["value", "least", "most"] sp_are_signs) : Cg P w K mg base 3 "is_key" ["value"] sp_is_key := by
  refine cg_of F hm sc_is_key (fun vs H Q E h => ?_) (fun _ _ _ _ _ _ us hl => match us, hl with | [_], _ => rfl) (fun _ _ _ _ _ _ us hl => match us, hl with | [_], _ => rfl) (fun cdv A outer s H vs Q E hG hr h => ?_)
  · obtain ⟨w, rfl, _⟩ := h
    rfl
  · obtain ⟨w, rfl, hw, k⟩ := h
    refine ⟨_, (pss_one (ps_ret (pe_and (pe_g c_are_signs hG hr (by decide) rfl (pa_cons (pv 0) (pa_cons pe_int (pa_cons (C8.pe_gc rfl T.g_MOST_KEY) pa_nil)))) (pe_one (pe_cmpR op_notIn_sign pe_str (pv 0) (by rfl)))))), ?_⟩
    refine ⟨_, rfl, w, 1, 13, rfl, hw, _, rfl, ?_⟩
    by_cases h : (1 : Int) ≤ (w.length : Int) ∧ (w.length : Int) ≤ 13
    rotate_left
    · rw [decide_eq_false h]
      have e : keyB w = false := decide_eq_false fun q => h ⟨by omega, by omega⟩
      rw [e] at k
      exact iteF k
    rw [decide_eq_true h]
    have e : keyB w = !decide (32 ∈ w) := by
      unfold keyB
      rw [Bool.eq_iff_iff]
      simp only [decide_eq_true_iff, Bool.not_eq_true', decide_eq_false_iff_not]
      exact ⟨fun q => q.2.2, fun q => ⟨by omega, by omega, q⟩⟩
    rw [e] at k
    refine iteT ⟨_, rfl, 32, S w, rfl, rfl, ?_⟩
    rw [S_cps]
    exact k
theorem ok_is_value {f : Addr} {fd : FuncData} (T : Txt K w mg) (F : FD K "is_value" s_is_value f fd) (hm : mg "is_value" = some (.ref f)) (c_are_signs : Cg P w K mg base 2 "are_signs" ["value", "least", "most"] sp_are_signs) : Cg P w K mg base 3 "is_value" ["value"] sp_is_value := by
  refine cg_of F hm sc_is_value (fun vs H Q E h => ?_) (fun _ _ _ _ _ _ us hl => match us, hl with | [_], _ => rfl) (fun _ _ _ _ _ _ us hl => match us, hl with | [_], _ => rfl) (fun cdv A outer s H vs Q E hG hr h => ?_)
  · obtain ⟨w, rfl, _⟩ := h
    rfl
  · obtain ⟨w, rfl, hw, k⟩ := h
    refine ⟨_, (pss_one (ps_ret (pe_g c_are_signs hG hr (by decide) rfl (pa_cons (pv 0) (pa_cons pe_int (pa_cons (C8.pe_gc rfl T.g_MOST_KEY) pa_nil)))))), ?_⟩
    have e : valB w = decide ((1 : Int) ≤ (w.length : Int) ∧ (w.length : Int) ≤ 13) := by
      unfold valB
      rw [Bool.eq_iff_iff, decide_eq_true_iff, decide_eq_true_iff]
      omega
    rw [e] at k
    exact ⟨_, rfl, w, 1, 13, rfl, hw, k⟩
theorem ok_is_child {f : Addr} {fd : FuncData} (T : Txt K w mg) (F : FD K "is_child" s_is_child f fd) (hm : mg "is_child" = some (.ref f)) (c_is_from : Cg P w K mg base 2 "is_from" ["value", "low"] sp_is_from) : Cg P w K mg base 3 "is_child" ["value"] sp_is_child := by
  refine cg_of F hm sc_is_child (fun vs H Q E h => ?_) (fun _ _ _ _ _ _ us hl => match us, hl with | [_], _ => rfl) (fun _ _ _ _ _ _ us hl => match us, hl with | [_], _ => rfl) (fun cdv A outer s H vs Q E hG hr h => ?_)
  · obtain ⟨v, t, rfl, _⟩ := h
    rfl
  · obtain ⟨v, t, rfl, ht, hx, k⟩ := h
    refine ⟨_, (pss_cons (ps_if (pt_val (pe_callB call_isi (by rfl) T.f_isinstance (by decide +kernel) (pa_cons (pv 0) (pa_cons (pe_bltn (v := .ty "tuple") rfl T.f_tuple (by decide +kernel) rfl) pa_nil)))) (pss_one (ps_ret (pe_and (pe_cmpR op_eq (pe_callB call_len_seq (by rfl) T.f_len PySem.boot_len (pa_cons (pv 0) pa_nil)) pe_int (nomark _)) (pe_and (pe_cmpR op_eq (pe_ix (show IxR _ (rIxT K) from ix_tup) (pv 0) pe_int (fun _ _ => rfl)) pe_str (nomark _)) (pe_one (pe_g c_is_from hG hr (by decide) rfl (pa_cons (pe_ix (show IxR _ (rIxT K) from ix_tup) (pv 0) pe_int (fun _ _ => rfl)) (pa_cons pe_int pa_nil)))))))) pss_nil)
      (pss_one (ps_ret (pe_g c_is_from hG hr (by decide) rfl (pa_cons (pv 0) (pa_cons pe_int pa_nil)))))), ?_⟩
    cases t with
    | tx l => exact absurd rfl (hx l)
    | no =>
      cases (show v = V.non from ht)
      refine ⟨_, rfl, _, _, _, _, false, rfl, .ty _, .base .non, kit_ty (by decide +kernel), _, rfl, iteF ⟨_, rfl, none, 0, rfl, k⟩⟩
    | pl i =>
      cases (show v = V.int i from ht)
      refine ⟨_, rfl, _, _, _, _, false, rfl, .ty _, .base (.int _), kit_ty (by decide +kernel), _, rfl, iteF ⟨_, rfl, some i, 0, rfl, ?_⟩⟩
      exact k
    | nw i =>
      obtain ⟨c, rfl, hc⟩ := ht
      have L : SqT K H c [.str (Str.ofString "new"), .int i] := SqT.of hc
      refine ⟨_, rfl, _, _, _, _, true, rfl, .ty _, .base (.tup hc), kit_ty (by decide +kernel), _, rfl, iteT ?_⟩
      refine ⟨_, rfl, c, _, rfl, .inr L, rfl, _, rfl, iteT ⟨_, rfl, c, _, 0, _, rfl, rfl, L, rfl, rfl, _, rfl, ?_⟩⟩
      rw [decide_eq_true rfl]
      refine iteT ⟨_, rfl, c, _, 1, _, rfl, rfl, L, rfl, some i, 0, rfl, ?_⟩
      exact k
theorem ok_is_sheet {f : Addr} {fd : FuncData} (T : Txt K w mg) (F : FD K "is_sheet" s_is_sheet f fd) (hm : mg "is_sheet" = some (.ref f)) (c_is_key : Cg P w K mg base 3 "is_key" ["value"] sp_is_key) (c_is_value : Cg P w K mg base 3 "is_value" ["value"] sp_is_value) (c_is_child : Cg P w K mg base 3 "is_child" ["value"] sp_is_child) : Cg P w K mg base 4 "is_sheet" ["value"] sp_is_sheet := by
  refine cg_of F hm sc_is_sheet (fun vs H Q E h => ?_) (fun _ _ _ _ _ _ us hl => match us, hl with | [_], _ => rfl) (fun _ _ _ _ _ _ us hl => match us, hl with | [_], _ => rfl) (fun cdv A outer s H vs Q E hG hr h => ?_)
  · obtain ⟨a, sh, rfl, _⟩ := h
    rfl
  · obtain ⟨a, sh, rfl, ha, fm, hl, k⟩ := h
    refine ⟨_, (pss_cons (ps_if (PW.pt (pw_or (pt_not (pt_val (pe_callB call_isi (by rfl) T.f_isinstance (by decide +kernel) (pa_cons (pv 0) (pa_cons (pe_bltn (v := .ty "tuple") rfl T.f_tuple (by decide +kernel) rfl) pa_nil))))) (pw_or (pt_cmpR op_ne (pe_callB call_len_seq (by rfl) T.f_len PySem.boot_len (pa_cons (pv 0) pa_nil)) pe_int (nomark _)) (pw_or1 (pt_cmpR op_notIn_seq (pe_ix (show IxR _ (rIxT K) from ix_tup) (pv 0) pe_int (fun _ _ => rfl)) (pe_tup (pa_cons pe_str (pa_cons pe_str pa_nil))) (by rfl)))))) (pss_one (ps_ret pe_bl)) pss_nil)
      (pss_cons (ps_asg (pv 0) (pg_tup rfl (pgs_cons (pg_name (i := 1) sc_is_sheet.nd rfl (Or.inl rfl)) (pgs_cons (pg_name (i := 2) sc_is_sheet.nd rfl (Or.inl rfl)) pgs_nil))))
      (pss_cons (ps_set (i := 3) sc_is_sheet.nd rfl (Or.inl rfl) (pe_ifExp (pt_cmpR op_eq (pv 1) pe_str (nomark _)) pe_int pe_int))
      (pss_cons (ps_if (PW.pt (pw_or (pt_not (pt_val (pe_callB call_isi (by rfl) T.f_isinstance (by decide +kernel) (pa_cons (pv 2) (pa_cons (pe_bltn (v := .ty "tuple") rfl T.f_tuple (by decide +kernel) rfl) pa_nil))))) (pw_or1 (pt_not (pt_chain op_le op_le (pv 3) (pe_callB call_len_seq (by rfl) T.f_len PySem.boot_len (pa_cons (pv 2) pa_nil)) (C8.pe_gc rfl T.g_MOST_ENTRIES)))))) (pss_one (ps_ret pe_bl)) pss_nil)
      (pss_cons (ps_set (i := 4) sc_is_sheet.nd rfl (Or.inl rfl) pe_str)
      (pss_cons (ps_for PassesOwn.never rfl (pi_tup (pv 2)) (pg_name (i := 5) sc_is_sheet.nd rfl (Or.inl rfl))
        (pss_cons (ps_if (PW.pt (pw_or (pt_not (pt_val (pe_callB call_isi (by rfl) T.f_isinstance (by decide +kernel) (pa_cons (pv 5) (pa_cons (pe_bltn (v := .ty "tuple") rfl T.f_tuple (by decide +kernel) rfl) pa_nil))))) (pw_or (pt_cmpR op_ne (pe_callB call_len_seq (by rfl) T.f_len PySem.boot_len (pa_cons (pv 5) pa_nil)) pe_int (nomark _)) (pw_or (pt_not (pt_val (pe_g c_is_key hG hr (by decide) rfl (pa_cons (pe_ix (show IxR _ (rIxT K) from ix_tup) (pv 5) pe_int (fun _ _ => rfl)) pa_nil)))) (pw_or1 (pt_cmpR op_le_str (pe_ix (show IxR _ (rIxT K) from ix_tup) (pv 5) pe_int (fun _ _ => rfl)) (pv 4) (nomark _))))))) (pss_one (ps_ret pe_bl)) pss_nil)
      (pss_cons (ps_if (pt_not (pt_ifExp (pt_cmpR op_eq (pv 1) pe_str (nomark _)) (pt_val (pe_g c_is_value hG hr (by decide) rfl (pa_cons (pe_ix (show IxR _ (rIxT K) from ix_tup) (pv 5) pe_int (fun _ _ => rfl)) pa_nil))) (pt_val (pe_g c_is_child hG hr (by decide) rfl (pa_cons (pe_ix (show IxR _ (rIxT K) from ix_tup) (pv 5) pe_int (fun _ _ => rfl)) pa_nil))))) (pss_one (ps_ret pe_bl)) pss_nil)
      (pss_one (ps_set (i := 4) sc_is_sheet.nd rfl (Or.inl rfl) (pe_ix (show IxR _ (rIxT K) from ix_tup) (pv 5) pe_int (fun _ _ => rfl)))))))
      (pss_one (ps_ret pe_bl)))))))), ?_⟩
    obtain ⟨b, ts, h1, h2, h3⟩ := ha
    have hlen := Paired.length h3
    have L : SqT K H a [.str (kindS sh.leaf), .ref b] := SqT.of h1
    refine ⟨_, rfl, _, _, _, _, true, rfl, .ty _, .base (.tup h1), kit_ty (by decide +kernel), _, rfl, iteF ⟨_, rfl, a, _, rfl, .inr L, rfl, _, rfl, iteF ⟨_, rfl, a, _, 0, _, rfl, rfl, L, rfl, by show 2 ≤ sizeLine; decide, fun D hD => ⟨D, _, rfl, .inr (SqT.of upd_same), rfl, rfl, _, rfl, ?_⟩⟩⟩⟩
    have S1 : Same H (upd H D (.tup [V.str (Str.ofString "leaf"), V.str (Str.ofString "fork")])) := Same.new hD
    revert S1
    show _ → (if (!inV (.str (kindS sh.leaf)) [.str (Str.ofString "leaf"), .str (Str.ofString "fork")]) = true then _ else _)
    rw [kindS_in]
    generalize upd H D (.tup [V.str (Str.ofString "leaf"), V.str (Str.ofString "fork")]) = H1
    intro S1
    refine iteF ?_
    have L1 : SqT K H1 a [.str (kindS sh.leaf), .ref b] := SqT.of (S1 _ _ h1)
    have Lb : SqT K H1 b (ts.map V.ref) := SqT.of (S1 _ _ h2)
    refine ⟨_, rfl, a, _, rfl, L1, rfl, _, _, rfl, _, _, rfl, rfl, ?_⟩
    dsimp only
    show tIf _ _ _ _ _ _
    refine tgo (.int (if sh.leaf = true then 1 else 2)) (fun N kN => ?_) ?_
    · refine ⟨_, rfl, rfl, _, rfl, ?_⟩
      rw [kindS_leaf]
      cases hle : sh.leaf with
      | true => rw [hle] at kN; exact iteT kN
      | false => rw [hle] at kN; exact iteF kN
    have fb : ∀ c : Prop, [Decidable c] → ¬ c → ((if sh.leaf = true then 1 else 2) ≤ sh.es.length ∧ sh.es.length ≤ 4 → c) → ShB sh = false := fun c _ h q => by
      unfold ShB
      rw [decide_eq_false (fun z => h (q z)), Bool.false_and]
    have il : ((if sh.leaf = true then 1 else 2 : Nat) : Int) = (if sh.leaf = true then (1 : Int) else 2) := by cases sh.leaf <;> rfl
    refine ⟨_, rfl, _, _, _, _, true, rfl, .ty _, .base (.tup (S1 _ _ h2)), kit_ty (by decide +kernel), _, rfl, iteF ⟨_, rfl, _, rfl, b, _, rfl, .inr Lb, _, _, rfl, rfl, _, rfl, ?_⟩⟩
    rw [List.length_map, hlen]
    by_cases c1 : (if sh.leaf = true then (1 : Int) else 2) ≤ (sh.es.length : Int)
    rotate_left
    · rw [decide_eq_false c1]
      rw [fb _ c1 (fun q => by omega)] at k
      exact iteF ⟨_, rfl, iteT (k _ S1)⟩
    rw [decide_eq_true c1]
    refine iteT ⟨_, _, rfl, rfl, _, rfl, ?_⟩
    by_cases c2 : (sh.es.length : Int) ≤ 4
    rotate_left
    · rw [decide_eq_false c2]
      rw [fb _ c2 (fun q => by omega)] at k
      exact iteT (k _ S1)
    rw [decide_eq_true c2]
    refine iteF ?_
    have k2 : ∀ H2, Same H H2 → Q (.bl (ranB sh.leaf [] sh.es)) H2 := fun H2 S2 => by
      have q := k H2 S2
      unfold ShB at q
      rw [decide_eq_true (show (if sh.leaf = true then 1 else 2) ≤ sh.es.length ∧ sh.es.length ≤ 4 by omega), Bool.true_and] at q
      exact q
    refine ⟨_, rfl, b, rfl, ⟨_, Lb⟩, for_it (walk_tup (xs := ts.map V.ref)) (fun i σ H2 => Same H1 H2 ∧ ∃ last x, σ = [some (.ref a), some (.str (kindS sh.leaf)), some (.ref b), some (.int (if sh.leaf = true then 1 else 2)), some (.str (S last)), x] ∧ ranB sh.leaf [] sh.es = ranB sh.leaf last (sh.es.drop i)) ⟨Same.refl _, [], _, rfl, rfl⟩ (fun i σ H2 _ h => sqT_same h.1 Lb) (fun i x σ H2 H2' hi hq hy => ?_) fun σ H2 hq => ?_⟩
    · obtain ⟨s1, last, y, rfl, er⟩ := hq
      obtain ⟨rfl, hv⟩ := hy
      rw [List.length_map] at hi
      have hes : i < sh.es.length := by omega
      have et : ts[i]? = some ts[i] := List.getElem?_eq_getElem hi
      rw [List.getElem?_map, et] at hv
      have hv2 := Option.some.inj hv
      subst hv2
      obtain ⟨e, ee, v, hE, hV⟩ := LiI.paired_get h3 et
      obtain ⟨we, f1, f2⟩ := fm e (List.mem_of_getElem? ee)
      have e2 : sh.es[i] = e := by rw [List.getElem?_eq_getElem hes] at ee; exact Option.some.inj ee
      rw [ranB_drop hes, e2] at er
      have S2 := S1.trans s1
      have hE2 := S2 _ _ hE
      have hV2 := hV.same S2
      have Le : SqT K H2' ts[i] [.str (S e.1), v] := SqT.of hE2
      rw [gname_eq]
      refine ⟨_, rfl, _, _, _, _, true, rfl, .ty _, .base (.tup hE2), kit_ty (by decide +kernel), _, rfl, iteF ⟨_, rfl, ts[i], _, rfl, .inr Le, rfl, _, rfl, iteF ⟨_, rfl, ts[i], _, 0, _, rfl, rfl, Le, rfl, e.1, rfl, we, _, rfl, ?_⟩⟩⟩
      cases hk : keyB e.1 with
      | false =>
        rw [hk, Bool.false_and] at er
        rw [er] at k2
        exact iteT (iteT (k2 _ S2))
      | true =>
        rw [hk, Bool.true_and] at er
        refine iteF ⟨_, rfl, ts[i], _, 0, _, rfl, rfl, Le, rfl, _, rfl, S e.1, S last, rfl, rfl, _, rfl, ?_⟩
        rw [S_cps, S_cps]
        by_cases hlt : last < e.1
        rotate_left
        · rw [decide_eq_false hlt, Bool.false_and] at er
          rw [er] at k2
          rw [decide_eq_false hlt]
          exact iteT (k2 _ S2)
        rw [decide_eq_true hlt, Bool.true_and] at er
        rw [decide_eq_true hlt]
        refine iteF ?_
        dsimp only [tNext]
        show tIfT _ _ _ _ _ _
        refine tgoT (tlB sh.leaf e.2) (fun N kN => ?_) ?_
        · refine ⟨_, rfl, rfl, _, rfl, ?_⟩
          rw [kindS_leaf]
          cases hle : sh.leaf with
          | true =>
            obtain ⟨l, el, wl⟩ := f1 hle
            rw [hle, el] at kN
            rw [el] at hV2
            cases (show v = V.str (S l) from hV2)
            exact iteT ⟨_, rfl, ts[i], _, 1, _, rfl, rfl, Le, rfl, l, rfl, wl, _, rfl, kN⟩
          | false =>
            rw [hle] at kN
            exact iteF ⟨_, rfl, ts[i], _, 1, _, rfl, rfl, Le, rfl, v, e.2, rfl, hV2, f2 hle, _, rfl, kN⟩
        cases ht : tlB sh.leaf e.2 with
        | false =>
          rw [ht, Bool.false_and] at er
          rw [er] at k2
          exact iteT (k2 _ S2)
        | true =>
          rw [ht, Bool.true_and] at er
          refine iteF ⟨_, rfl, ts[i], _, 0, _, rfl, rfl, Le, rfl, ?_⟩
          exact ⟨s1, e.1, _, rfl, er⟩
    · obtain ⟨s1, last, y, rfl, er⟩ := hq
      rw [List.drop_eq_nil_of_le (by rw [List.length_map]; omega)] at er
      rw [er] at k2
      exact k2 _ (S1.trans s1)
theorem ok_sheet_of {f : Addr} {fd : FuncData} (T : Txt K w mg) (F : FD K "sheet_of" s_sheet_of f fd) (hm : mg "sheet_of" = some (.ref f)) (c_is_sheet : Cg P w K mg base 4 "is_sheet" ["value"] sp_is_sheet) (c_number_in : Cg P w K mg base 2 "number_in" ["word"] sp_number_in) : Cg P w K mg base 5 "sheet_of" ["text"] sp_sheet_of := by
  refine cg_of F hm sc_sheet_of (fun vs H Q E h => ?_) (fun _ _ _ _ _ _ us hl => match us, hl with | [_], _ => rfl) (fun _ _ _ _ _ _ us hl => match us, hl with | [_], _ => rfl) (fun cdv A outer s H vs Q E hG hr h => ?_)
  · obtain ⟨ws, rfl, _⟩ := h
    rfl
  · obtain ⟨ws, rfl, h0, hw, hl, k⟩ := h
    refine ⟨_, (pss_cons (ps_asg (pe_bm PySem.F.plainAttrs_str PySem.F.slot_str_split PySem.F.type_str_split mt_split (pv 0) (pa_cons pe_str pa_nil)) (pg_hdTl rfl (pg_name (i := 1) sc_sheet_of.nd rfl (Or.inl rfl)) (pg_name (i := 2) sc_sheet_of.nd rfl (Or.inl rfl))))
      (pss_cons (ps_if (PW.pt (pw_or (pt_cmpR op_notIn_seq (pv 1) (pe_tup (pa_cons pe_str (pa_cons pe_str pa_nil))) (by rfl)) (pw_or1 (pt_cmpR op_eq (pe_op op_mod (pe_callB call_len_seq (by rfl) T.f_len PySem.boot_len (pa_cons (pv 2) pa_nil)) pe_int) pe_int (nomark _))))) (pss_one (ps_ret pe_non)) pss_nil)
      (pss_cons (ps_set (i := 3) sc_sheet_of.nd rfl (Or.inl rfl) (pe_listZip rfl rfl T.f_list (by decide +kernel) rfl T.f_zip (pa_cons (pe_alt (pv 2)) (pa_cons (pe_alt (pv 2)) pa_nil))))
      (pss_cons (ps_if (pt_cmpR op_eq (pv 1) pe_str (nomark _)) (pss_one (ps_set (i := 4) sc_sheet_of.nd rfl (Or.inl rfl) (pe_tup (pa_cons pe_str (pa_cons (pe_callTy call_tuple_of (by rfl) T.f_tuple (by decide +kernel) (pa_cons (pv 3) pa_nil)) pa_nil))))) (pss_one (ps_set (i := 4) sc_sheet_of.nd rfl (Or.inl rfl) (pe_tup (pa_cons pe_str (pa_cons (pe_callTy call_tuple_of (by rfl) T.f_tuple (by decide +kernel) (pa_cons (pe_lc (own := [("key", 5), ("word", 6)]) rfl sc_sheet_of.nd (pi_list (pv 3)) (blkOk_by (N := ["text", "first", "words", "pairs", "sheet", "key", "word"]) (sc := defScope s_sheet_of) (by decide +kernel)) (fun _ _ _ _ _ => show PG _ _ (gTup K 2 (gCons (gName 5) (gCons (gName 6) gNil))) from (pg_tup rfl (pgs_cons (pg_name (i := 5) sc_sheet_of.nd rfl (Or.inl rfl)) (pgs_cons (pg_name (i := 6) sc_sheet_of.nd rfl (Or.inl rfl)) pgs_nil)))) (fun _ _ _ _ _ => pts_nil) (fun _ _ _ _ _ => (pe_tup (pa_cons (pv 5) (pa_cons (pe_g c_number_in hG hr (by decide) rfl (pa_cons (pv 6) pa_nil)) pa_nil))))) pa_nil)) pa_nil))))))
      (pss_one (ps_ret (pe_ifExp (pt_val (pe_g c_is_sheet hG hr (by decide) rfl (pa_cons (pv 4) pa_nil))) (pv 4) pe_non))))))), ?_⟩
    obtain ⟨f, r, rfl⟩ : ∃ f r, ws = f :: r := by
      cases ws with
      | nil => exact absurd rfl h0
      | cons f r => exact ⟨f, r, rfl⟩
    have hr : r.length ≤ 900 := by
      have := J10_len (f :: r)
      rw [List.length_cons] at this
      omega
    have wf := hw f List.mem_cons_self
    have wr : ∀ w ∈ r, Wd w := fun w h => hw w (List.mem_cons_of_mem _ h)
    refine ⟨_, rfl, rfl, _, _, rfl, rfl, (by rw [e_nl]; rfl), (by rw [S_len, sizeLine_eq]; omega), ?_⟩
    rw [e_nl, split_J10 h0 (fun w h => (hw w h).no10)]
    intro p np
    rw [map_wV]
    refine ⟨p, wV f, r.map wV, rfl, SqL.of upd_same, (by rw [List.length_map]; omega), fun D nD => ?_⟩
    have S1 : Same H (upd (upd H p (.lst (wV f :: r.map wV))) D (.lst (r.map wV))) := (Same.new np).put (Same.free (Same.new np) nD)
    have L1 : (upd (upd H p (.lst (wV f :: r.map wV))) D (.lst (r.map wV))) D = some (.lst (r.map wV)) := upd_same
    revert S1 L1
    show _ → _ → gName 1 (wV f) _ (upd (upd H p (.lst (wV f :: r.map wV))) D (.lst (r.map wV))) _
    generalize upd (upd H p (.lst (wV f :: r.map wV))) D (.lst (r.map wV)) = H1
    intro S1 L1
    refine ⟨_, rfl, by show 2 ≤ sizeLine; decide, fun D2 n2 => ⟨D2, _, rfl, .inr (SqT.of upd_same), rfl, rfl, _, rfl, ?_⟩⟩
    have S2 : Same H (upd H1 D2 (.tup [V.str (Str.ofString "l"), V.str (Str.ofString "f")])) := S1.put (S1.free n2)
    have L2 : (upd H1 D2 (.tup [V.str (Str.ofString "l"), V.str (Str.ofString "f")])) D = some (.lst (r.map wV)) := Same.new n2 _ _ L1
    revert S2 L2
    show _ → _ → (if (!inV (V.str (S f)) [.str (Str.ofString "l"), .str (Str.ofString "f")]) = true then _ else _)
    generalize upd H1 D2 (.tup [V.str (Str.ofString "l"), V.str (Str.ofString "f")]) = H2
    intro S2 L2
    rw [first_in]
    by_cases hf : f = [108] ∨ f = [102]
    rotate_left
    · rw [decide_eq_false hf]
      exact iteT (iteT (k _ _ S2 (by rw [parse_none fun q => hf q.1]; rfl)))
    rw [decide_eq_true hf]
    refine iteF ⟨_, rfl, D, _, rfl, .inl (SqL.of L2), _, _, rfl, rfl, (show (0 : Int) < 2 by decide), rfl, _, rfl, ?_⟩
    rw [List.length_map]
    by_cases h2 : r.length % 2 = 1
    · rw [show decide (V.int ((r.length : Int) % 2) = V.int 1) = true from decide_eq_true (congrArg V.int (by omega))]
      exact iteT (k _ _ S2 (by rw [parse_none fun q => by omega]; rfl))
    rw [show decide (V.int ((r.length : Int) % 2) = V.int 1) = false from decide_eq_false (fun q => by have q2 := V.int.inj q; omega)]
    have h3 : r.length % 2 = 0 := by omega
    refine iteF ⟨_, rfl, D, _, rfl, SqL.of L2, fun q1 n1 => ⟨_, rfl, D, _, rfl, SqL.of (Same.new n1 _ _ L2), fun q2 n2 => ⟨q1, q2, _, _, rfl, SqL.of (Same.new n2 _ _ upd_same), SqL.of upd_same, ?_, fun H5 p2 ts k1 np2 nts npt ndts hp pr off => ?_⟩⟩⟩
    · show (alt ((r.map wV).drop 0)).length = (alt ((r.map wV).drop 1)).length
      rw [alt_length, alt_length, List.length_drop, List.length_drop, List.length_map]
      omega
    replace pr : Paired (fun t q => H5 t = some (tupP q)) ts ((alt ((r.map wV).drop 0)).zip (alt ((r.map wV).drop 1))) := pr
    have S5 : Same H H5 := fun b o e => k1 _ _ (Same.new n2 _ _ (Same.new n1 _ _ (S2 _ _ e)))
    rw [List.drop_zero, ← List.map_drop, alt_map, alt_map, zip_wV] at pr
    have wa : ∀ w ∈ alt r, Wd w := fun w h => wr w (mem_alt h)
    have wb : ∀ w ∈ alt (r.drop 1), Wd w := fun w h => wr w (List.mem_of_mem_drop (mem_alt h))
    have la : (alt r).length ≤ 900 := by rw [alt_length]; omega
    have lz : ((alt r).zip (alt (r.drop 1))).length ≤ 900 := Nat.le_trans (by rw [List.length_zip]; exact Nat.min_le_left _ _) la
    have lts : ts.length = ((alt r).zip (alt (r.drop 1))).length := by rw [Paired.length pr, List.length_map]
    have fin : ∀ (b a : Addr) (tt : List Addr) (H6 : Hp) (leaf : Bool), leaf = decide (f = [108]) → Same H H6 → H6 b = some (.tup (tt.map V.ref)) → H6 a = some (.tup [.str (kindS leaf), .ref b]) → Paired (EnAt H6) tt (ents leaf (alt r) (alt (r.drop 1))) → tRet (tIf (tB (tCallP sp_is_sheet (tCons (tVar 4) tNil))) (tVar 4) (tC V.non)) { nx := fun x H' => Q V.non H', rt := Q } [some (.str (S (J10 (f :: r)))), some (wV f), some (.ref D), some (.ref p2), some (.ref a), none, none] H6 := by
      intro b a tt H6 leaf hle S6 hb ha hp6
      subst hle
      refine ⟨_, rfl, a, ⟨decide (f = [108]), ents (decide (f = [108])) (alt r) (alt (r.drop 1))⟩, rfl, ⟨b, tt, ha, hb, hp6⟩, ents_fm wa wb, Nat.le_trans (ents_len _ _ _) (by omega), fun H7 S7 => ⟨_, rfl, ?_⟩⟩
      have S8 := S6.trans S7
      cases hs : ShB ⟨decide (f = [108]), ents (decide (f = [108])) (alt r) (alt (r.drop 1))⟩ with
      | true =>
        refine iteT ⟨_, rfl, k _ _ S8 ?_⟩
        rw [parse_some ⟨hf, h3⟩, hs, if_pos rfl]
        exact ⟨a, rfl, ShAt.same ⟨b, tt, ha, hb, hp6⟩ S7⟩
      | false =>
        refine iteF (k _ _ S8 ?_)
        rw [parse_some ⟨hf, h3⟩, hs, if_neg Bool.false_ne_true]
        rfl
    refine ⟨_, rfl, rfl, _, rfl, ?_⟩
    show (if decide (V.str (S f) = V.str (Str.ofString "l")) = true then _ else _)
    rw [e_l, S_dec]
    by_cases hl1 : f = [108]
    · rw [decide_eq_true hl1]
      refine iteT ⟨_, rfl, p2, _, rfl, .inl ⟨SqL.of hp, fun l nl => ⟨by show 2 ≤ sizeLine; decide, fun a na => ?_⟩⟩⟩
      have S6 : Same H5 (upd (upd H5 l (.tup (ts.map V.ref))) a (.tup [V.str (Str.ofString "leaf"), V.ref l])) := (Same.new nl).put (Same.free (Same.new nl) na)
      refine fin l a ts _ true (decide_eq_true hl1).symm (S5.trans S6) (Same.new na _ _ upd_same) upd_same ?_
      rw [ents_leaf]
      exact paired_map (fun t q e => ⟨_, S6 _ _ e, rfl⟩) pr
    rw [decide_eq_false hl1]
    refine iteF ⟨_, rfl, p2, rfl, ⟨_, SqL.of hp⟩, fun DD nDD => lc_it (walk_list (xs := ts.map V.ref)) (fun i H' => Same H5 H' ∧ ∃ as : List Addr, as.length = i ∧ H' DD = some (.lst (as.map V.ref)) ∧ Paired (EnAt H') as ((((alt r).zip (alt (r.drop 1))).take i).map enF)) ⟨Same.new nDD, [], rfl, upd_same, .nil⟩ (fun i H' _ h => SqL.of (h.1 _ _ hp)) ?_ ?_⟩
    · rintro i x H6 H7 hi ⟨hS, as, hl6, hL, hP⟩ ⟨rfl, hx⟩
      rw [List.length_map] at hi
      have et : ts[i]? = some ts[i] := List.getElem?_eq_getElem hi
      rw [List.getElem?_map, et] at hx
      have hx2 := Option.some.inj hx
      subst hx2
      obtain ⟨qz, eq, hq⟩ := LiI.paired_get pr et
      rw [List.getElem?_map] at eq
      obtain ⟨q, eq2, rfl⟩ := Option.map_eq_some_iff.mp eq
      have wq := List.of_mem_zip (List.mem_of_getElem? eq2)
      refine ⟨_, _, rfl, SqT.of (hS _ _ hq), rfl, _, _, rfl, _, _, rfl, rfl, rfl, yes_of ?_⟩
      refine ⟨_, rfl, _, rfl, q.2, rfl, wb _ wq.2, by show 2 ≤ sizeLine; decide, fun t nt => ⟨_, Same.new nt _ _ hL, ?_, ?_, as ++ [t], by simp [hl6], ?_, ?_⟩⟩
      · rw [List.length_map, sizeLine_eq]
        omega
      · exact (hS.put (hS.free nt)).put nDD
      · rw [upd_same, List.map_append]; rfl
      · rw [List.take_add_one, eq2, List.map_append]
        refine snocP (Paired.mono (fun _ _ e => EnAt.put (Same.new nt _ _ hL) (e.same (Same.new nt))) hP) ?_
        exact EnAt.put (Same.new nt _ _ hL) ⟨_, upd_same, tl_num _ _⟩
    · rintro H6 ⟨hS, as, hl6, hL, hP⟩
      rw [List.length_map, List.take_of_length_le (by omega)] at hP
      refine ⟨DD, _, rfl, .inl ⟨SqL.of hL, fun l nl => ⟨by show 2 ≤ sizeLine; decide, fun a na => ?_⟩⟩⟩
      have S6 : Same H6 (upd (upd H6 l (.tup (as.map V.ref))) a (.tup [V.str (Str.ofString "fork"), V.ref l])) := (Same.new nl).put (Same.free (Same.new nl) na)
      refine fin l a as _ false (decide_eq_false hl1).symm ((S5.trans hS).trans S6) (Same.new na _ _ upd_same) upd_same ?_
      rw [ents_fork]
      exact Paired.mono (fun _ _ e => e.same S6) hP
theorem ok_sheet_in {f : Addr} {fd : FuncData} (T : Txt K w mg) (F : FD K "sheet_in" s_sheet_in f fd) (hm : mg "sheet_in" = some (.ref f)) (c_sheet_of : Cg P w K mg base 5 "sheet_of" ["text"] sp_sheet_of) (c_is_page_text : Cg P w K mg base 2 "is_page_text" ["value"] sp_is_page_text) : Cg P w K mg base 6 "sheet_in" ["text"] sp_sheet_in := by
  refine cg_of F hm sc_sheet_in (fun vs H Q E h => ?_) (fun _ _ _ _ _ _ us hl => match us, hl with | [_], _ => rfl) (fun _ _ _ _ _ _ us hl => match us, hl with | [_], _ => rfl) (fun cdv A outer s H vs Q E hG hr h => ?_)
  · obtain ⟨ws, rfl, _⟩ := h
    rfl
  · obtain ⟨ws, rfl, h0, hw, hl, k⟩ := h
    refine ⟨_, (pss_cons (ps_if (pt_not (pt_val (pe_g c_is_page_text hG hr (by decide) rfl (pa_cons (pv 0) pa_nil)))) (pss_one ps_never) pss_nil)
      (pss_one (ps_ret (pe_g c_sheet_of hG hr (by decide) rfl (pa_cons (pv 0) pa_nil))))), ?_⟩
    refine ⟨_, rfl, J10 ws, rfl, by omega, fun H2 S2 => ⟨_, rfl, ?_⟩⟩
    rw [decide_eq_true (show (J10 ws).length ≤ 113 ∧ ∀ c ∈ J10 ws, WM.okc c from ⟨hl, J10_ok hw⟩)]
    exact iteF ⟨_, rfl, ws, rfl, h0, hw, by omega, fun v H3 S3 hv => k v H3 (S2.trans S3) hv⟩
theorem ok_written {f : Addr} {fd : FuncData} (T : Txt K w mg) (F : FD K "written" s_written f fd) (hm : mg "written" = some (.ref f)) (c_is_sheet : Cg P w K mg base 4 "is_sheet" ["value"] sp_is_sheet) (c_is_from : Cg P w K mg base 2 "is_from" ["value", "low"] sp_is_from) : Cg P w K mg base 5 "written" ["sheet", "places"] sp_written ∧ Cgk P w K mg base 5 "written" ["sheet", "places"] ["places", "sheet"] [1, 0] sp_written := by
  refine cgk_of ["places", "sheet"] [1, 0] F hm sc_written (fun vs H Q E h => ?_) (fun _ _ _ _ _ _ us hl => match us, hl with | [_, _], _ => rfl) (fun _ _ _ _ _ _ us hl => match us, hl with | [_, _], _ => rfl) (fun _ _ _ _ _ _ us ws h1 h2 => match us, ws, h1, h2 with | [], [_, _], _, _ => rfl) (fun cdv A outer s H vs Q E hG hr h => ?_)
  · obtain ⟨a, b, sh, ps, rfl, _⟩ := h
    rfl
  · obtain ⟨a, b, sh, ps, rfl, ha, fm, hn, hok, hb, hpl, hps, hnw, k⟩ := h
    refine ⟨_, (pss_cons (ps_if (pt_not (pt_val (pe_g c_is_sheet hG hr (by decide) rfl (pa_cons (pv 0) pa_nil)))) (pss_one ps_never) pss_nil)
      (pss_cons (ps_if (PW.pt (pw_or (pt_not (pt_val (pe_callB call_isi (by rfl) T.f_isinstance (by decide +kernel) (pa_cons (pv 1) (pa_cons (pe_bltn (v := .ty "tuple") rfl T.f_tuple (by decide +kernel) rfl) pa_nil))))) (pw_or1 (pt_not (pt_val (pe_callB (cr_all rfl) (by rfl) T.f_all (by decide +kernel) (pa_cons (pe_lc (own := [("place", 7)]) rfl sc_written.nd (pi_tup (pv 1)) (blkOk_by (N := ["sheet", "places", "kind", "entries", "words", "key", "what", "place"]) (sc := defScope s_written) (by decide +kernel)) (fun _ _ _ _ _ => (pg_name (i := 7) sc_written.nd rfl (Or.inl rfl))) (fun _ _ _ _ _ => pts_nil) (fun _ _ _ _ _ => (pe_g c_is_from hG hr (by decide) rfl (pa_cons (pv 7) (pa_cons pe_int pa_nil))))) pa_nil))))))) (pss_one ps_never) pss_nil)
      (pss_cons (ps_asg (pv 0) (pg_tup rfl (pgs_cons (pg_name (i := 2) sc_written.nd rfl (Or.inl rfl)) (pgs_cons (pg_name (i := 3) sc_written.nd rfl (Or.inl rfl)) pgs_nil))))
      (pss_cons (ps_set (i := 4) sc_written.nd rfl (Or.inl rfl) (pe_lst (pa_cons (pe_ix ix_str (pv 2) pe_int (fun _ _ => rfl)) pa_nil)))
      (pss_cons (ps_for PassesOwn.never rfl (pi_tup (pv 3)) (pg_tup rfl (pgs_cons (pg_name (i := 5) sc_written.nd rfl (Or.inl rfl)) (pgs_cons (pg_name (i := 6) sc_written.nd rfl (Or.inl rfl)) pgs_nil)))
        (pss_one (ps_if (pt_not (pt_val (pe_callB call_isi (by rfl) T.f_isinstance (by decide +kernel) (pa_cons (pv 6) (pa_cons (pe_bltn (v := .ty "tuple") rfl T.f_tuple (by decide +kernel) rfl) pa_nil))))) (pss_one (ps_expr (pe_bm PySem.F.plainAttrs_list PySem.F.slot_list_extend PySem.F.type_list_extend mt_extendT (pv 4) (pa_cons (pe_tup (pa_cons (pv 5) (pa_cons (pe_callTy (CallR.or call_str_int SkE.call_str_str) (by rfl) T.f_str (by decide +kernel) (pa_cons (pv 6) pa_nil)) pa_nil))) pa_nil)))) (pss_one (ps_if (pt_cmpR op_lt (pe_ix (show IxR _ (rIxT K) from ix_tup) (pv 6) pe_int (fun _ _ => rfl)) (pe_callB call_len_seq (by rfl) T.f_len PySem.boot_len (pa_cons (pv 1) pa_nil)) (nomark _)) (pss_one (ps_expr (pe_bm PySem.F.plainAttrs_list PySem.F.slot_list_extend PySem.F.type_list_extend mt_extendT (pv 4) (pa_cons (pe_tup (pa_cons (pv 5) (pa_cons (pe_callTy call_str_int (by rfl) T.f_str (by decide +kernel) (pa_cons (pe_ix (show IxR _ (rIxT K) from ix_tup) (pv 1) (pe_ix (show IxR _ (rIxT K) from ix_tup) (pv 6) pe_int (fun _ _ => rfl)) (fun _ _ => rfl)) pa_nil)) pa_nil))) pa_nil)))) (pss_one ps_never))))))
      (pss_one (ps_ret (pe_join pe_str (pv 4))))))))), ?_⟩
    obtain ⟨eb, ts, h1, h2, h3⟩ := id ha
    have hlen := Paired.length h3
    refine ⟨_, rfl, a, sh, rfl, ha, fm, by omega, fun H1 S1 => ⟨_, rfl, ?_⟩⟩
    rw [hok]
    have hb1 := S1 _ _ hb
    refine iteF ⟨_, rfl, _, _, _, _, true, rfl, .ty _, .base (.tup hb1), kit_ty (by decide +kernel), _, rfl, iteF ⟨_, rfl, b, rfl, ⟨_, SqT.of hb1⟩, fun D nD => lc_it (walk_tup (xs := ps.map V.int)) (fun i H' => Same H1 H' ∧ H' D = some (.lst ((List.replicate i true).map V.bl))) ⟨Same.new nD, upd_same⟩ (fun i H' _ h => SqT.of (h.1 _ _ hb1)) ?_ ?_⟩⟩
    · rintro i x H2 H3 hi ⟨s2, x3⟩ ⟨rfl, hv⟩
      rw [List.length_map] at hi
      rw [List.getElem?_map, List.getElem?_eq_getElem hi] at hv
      have hv2 := Option.some.inj hv
      subst hv2
      have q0 := (hps ps[i] (List.getElem_mem hi)).1
      refine ⟨rfl, yes_of ⟨_, rfl, some ps[i], 0, rfl, ?_⟩⟩
      refine ⟨_, x3, by rw [List.length_map, List.length_replicate, sizeLine_eq]; omega, s2.put nD, ?_⟩
      rw [upd_same, List.replicate_succ', List.map_append]
      show some (HO.lst (_ ++ [V.bl (decide (0 ≤ ps[i]))])) = _
      rw [decide_eq_true q0]
      rfl
    rintro H2 ⟨s2, x3⟩
    refine ⟨D, _, rfl, SqL.of x3, ?_⟩
    rw [show ∀ m : Nat, (List.replicate m true).all id = true from fun m => List.all_eq_true.mpr fun b hb => List.eq_of_mem_replicate hb]
    refine ⟨_, rfl, iteF ?_⟩
    have S2 := S1.trans s2
    have L2 : SqT K H2 a [.str (kindS sh.leaf), .ref eb] := SqT.of (S2 _ _ h1)
    refine ⟨_, rfl, a, _, rfl, L2, rfl, _, _, rfl, _, _, rfl, rfl, ?_⟩
    refine ⟨_, rfl, _, 0, _, rfl, rfl, kindS_len _, kindS_0 _, by show 1 ≤ sizeLine; decide, fun W nW => ?_⟩
    have e0 : (upd H2 W (.lst [V.str ⟨#[if sh.leaf = true then 108 else 102]⟩])) W = some (.lst (([if sh.leaf = true then [108] else [102]] : List (List Nat)).map wV)) := by
      rw [upd_same]
      cases sh.leaf <;> rfl
    have Sw : Same H2 (upd H2 W (.lst [V.str ⟨#[if sh.leaf = true then 108 else 102]⟩])) := Same.new nW
    have hE2 := S2 _ _ h2
    refine ⟨_, rfl, eb, rfl, ⟨_, SqT.of (Sw _ _ hE2)⟩, for_it (walk_tup (xs := ts.map V.ref)) (fun i σ H' => Same H2 H' ∧ H' W = some (.lst (((if sh.leaf = true then [108] else [102]) :: (sh.es.take i).flatMap fun e => [e.1, tellW ps e.2]).map wV)) ∧ ∃ x y, σ = [some (.ref a), some (.ref b), some (.str (kindS sh.leaf)), some (.ref eb), some (.ref W), x, y, none]) ⟨Sw, e0, _, _, rfl⟩ (fun i σ H' _ h => SqT.of (h.1 _ _ hE2)) (fun i x σ H3 H3' hi hq hy => ?_) fun σ H3 hq => ?_⟩
    · obtain ⟨s3, eW, y1, y2, rfl⟩ := hq
      obtain ⟨rfl, hv⟩ := hy
      rw [List.length_map] at hi
      have et : ts[i]? = some ts[i] := List.getElem?_eq_getElem hi
      rw [List.getElem?_map, et] at hv
      have hv2 := Option.some.inj hv
      subst hv2
      obtain ⟨e, ee, v, hE, hV⟩ := LiI.paired_get h3 et
      have hem := List.mem_of_getElem? ee
      obtain ⟨we, f1, f2⟩ := fm e hem
      have S3 := S2.trans s3
      have hE3 := S3 _ _ hE
      have hV3 := hV.same S3
      have hes : i < sh.es.length := by omega
      have wl : (((if sh.leaf = true then [108] else [102]) :: (sh.es.take i).flatMap fun e => [e.1, tellW ps e.2]).map wV).length ≤ 100 := by
        rw [List.length_map, List.length_cons, flat_len _ 2 _ (fun _ => rfl), List.length_take]
        omega
      have step : ∀ (t : Addr) (H4 : Hp) (x : V), Same H3' H4 → x = wV (tellW ps e.2) → H4 t = some (.tup [V.str (S e.1), x]) → H4 W = some (.lst (((if sh.leaf = true then [108] else [102]) :: (sh.es.take i).flatMap fun e => [e.1, tellW ps e.2]).map wV)) →
          rExtendT K (V.ref W) [V.ref t] H4 fun _ H5 => Same H2 H5 ∧ H5 W = some (.lst (((if sh.leaf = true then [108] else [102]) :: (sh.es.take (i + 1)).flatMap fun e => [e.1, tellW ps e.2]).map wV)) ∧ ∃ x y, [some (V.ref a), some (V.ref b), some (V.str (kindS sh.leaf)), some (V.ref eb), some (V.ref W), some (V.str (S e.1)), some v, none] = [some (V.ref a), some (V.ref b), some (V.str (kindS sh.leaf)), some (V.ref eb), some (V.ref W), x, y, none] := by
        intro t H4 x S4 ex ht hW
        subst ex
        refine ⟨W, t, _, _, rfl, rfl, hW, SqT.of ht, by rw [sizeLine_eq]; show _ + 2 ≤ _; omega, (s3.trans S4).put nW, ?_, _, _, rfl⟩
        rw [upd_same, List.take_add_one, ee, List.flatMap_append, ← List.cons_append, List.map_append]
        rfl
      have tW : tyV K "list" (V.ref W) H3' := .inl ⟨rfl, _, SqL.of eW⟩
      refine ⟨ts[i], _, rfl, SqT.of hE3, rfl, _, _, rfl, _, _, rfl, rfl, ?_⟩
      obtain ⟨kk, tl⟩ := e
      cases tl with
      | tx l =>
        cases (show v = V.str (S l) from hV3)
        refine ⟨_, rfl, _, _, _, _, false, rfl, .ty _, .base (.str _), kit_ty (by decide +kernel), _, rfl, iteT ?_⟩
        exact ⟨_, rfl, tW, _, rfl, _, rfl, .inr ⟨_, rfl, by show 2 ≤ sizeLine; decide, fun t nt => step t _ _ (Same.new nt) rfl upd_same (Same.new nt _ _ eW)⟩⟩
      | no =>
        have hr := hok
        exact absurd (show False from by
          obtain ⟨q1, q2⟩ := (Bool.and_eq_true _ _).mp hr
          exact run_no q2 hem) id
      | pl i' =>
        cases (show v = V.int i' from hV3)
        obtain ⟨q1, q2⟩ := (hnw _ hem i').1 rfl
        refine ⟨_, rfl, _, _, _, _, false, rfl, .ty _, .base (.int _), kit_ty (by decide +kernel), _, rfl, iteT ?_⟩
        exact ⟨_, rfl, tW, _, rfl, _, rfl, .inl ⟨_, rfl, small_log q1 q2, by show 2 ≤ sizeLine; decide, fun t nt => step t _ _ (Same.new nt) (S_str _) upd_same (Same.new nt _ _ eW)⟩⟩
      | nw i' =>
        obtain ⟨c, rfl, hc⟩ := hV3
        obtain ⟨q1, q2⟩ := (hnw _ hem i').2 rfl
        have Lc : SqT K H3' c [.str (Str.ofString "new"), .int i'] := SqT.of hc
        have Lb : SqT K H3' b (ps.map V.int) := SqT.of (S3 _ _ hb)
        have hlt : i'.toNat < ps.length := by omega
        have hg : ps.getD i'.toNat 0 = ps[i'.toNat] := by rw [List.getD, List.getElem?_eq_getElem hlt]; rfl
        obtain ⟨q3, q4⟩ := hps _ (List.getElem_mem hlt)
        have hat : atI (ps.map V.int) i' = some (V.int ps[i'.toNat]) := by
          obtain ⟨n, rfl⟩ : ∃ n : Nat, i' = n := ⟨i'.toNat, by omega⟩
          refine atI_nat ?_
          rw [List.getElem?_map, List.getElem?_eq_getElem (by omega)]
          rfl
        refine ⟨_, rfl, _, _, _, _, true, rfl, .ty _, .base (.tup hc), kit_ty (by decide +kernel), _, rfl, iteF ?_⟩
        refine ⟨_, rfl, c, _, 1, _, rfl, rfl, Lc, rfl, _, rfl, b, _, rfl, .inr Lb, _, _, rfl, rfl, _, rfl, ?_⟩
        rw [List.length_map, decide_eq_true q2]
        refine iteT ⟨_, rfl, tW, _, rfl, _, rfl, _, rfl, c, _, 1, _, rfl, rfl, Lc, rfl, b, _, i', _, rfl, rfl, Lb, hat, _, rfl, small_log q3 q4, by show 2 ≤ sizeLine; decide, fun t nt => step t _ _ (Same.new nt) ?_ upd_same (Same.new nt _ _ eW)⟩
        show V.str _ = wV (digW (ps.getD i'.toNat 0))
        rw [hg]
        exact S_str _
    · obtain ⟨s3, eW, y1, y2, rfl⟩ := hq
      rw [List.length_map, List.take_of_length_le (by omega), ← map_wV] at eW
      have hwd := words_wd (sh := sh) (ps := ps) fm hps hnw
      refine ⟨⟨_, rfl⟩, _, rfl, _, W, _, rfl, rfl, .inl (SqL.of eW), ?_, ?_⟩
      · have l1 : (wordsOf sh ps).length ≤ 9 := by
          unfold wordsOf
          rw [List.length_cons, flat_len _ 2 _ (fun _ => rfl)]
          omega
        have l2 := sum_le (k := 14) (l := ((wordsOf sh ps).map S).map (·.length)) (fun x hx => by
          obtain ⟨y, hy, rfl⟩ := List.mem_map.mp hx
          obtain ⟨z, hz, rfl⟩ := List.mem_map.mp hy
          rw [S_len]
          exact (hwd z hz).ln)
        rw [List.length_map, List.length_map] at l2
        show (((wordsOf sh ps).map S).map (·.length)).sum + ((wordsOf sh ps).map S).length * (Str.ofString "\n").length ≤ 16777216
        rw [e_nl, List.length_map]
        show _ + (wordsOf sh ps).length * 1 ≤ _
        omega
      · show Q (.str (Txt.join (Str.ofString "\n") ((wordsOf sh ps).map S))) H3
        rw [join10]
        exact k _ (S2.trans s3)
theorem ok_law_pot {f : Addr} {fd : FuncData} (T : Txt K w mg) (F : FD K "_law_pot" s_law_pot f fd) (hm : mg "_law_pot" = some (.ref f)) : Cg P w K mg base 1 "_law_pot" ["script", "place"] (sp_law_pot K) := by
  refine cg_of F hm sc_law_pot (fun vs H Q E h => ?_) (fun _ _ _ _ _ _ us hl => match us, hl with | [_, _], _ => rfl) (fun _ _ _ _ _ _ us hl => match us, hl with | [_, _], _ => rfl) (fun cdv A outer s H vs Q E hG hr h => ?_)
  · obtain ⟨a, xs, p, rfl, _⟩ := h
    rfl
  · obtain ⟨a, xs, p, rfl, hx, hp, k⟩ := h
    refine ⟨_, (pss_cons (ps_set (i := 2) sc_law_pot.nd rfl (Or.inl rfl) (pe_ifExp (pt_cmpR op_lt (pv 1) (pe_callB call_len_seq (by rfl) T.f_len PySem.boot_len (pa_cons (pv 0) pa_nil)) (nomark _)) (pe_ix (show IxR _ (rIxL K) from ix_list) (pv 0) (pv 1) (fun _ _ => rfl)) (pe_op op_add (pe_op op_add (pe_op op_mod (pe_callB (cr_sum rfl) (by rfl) T.f_sum (by decide +kernel) (pa_cons (pe_slice sl_list (pv 0) po_none (po_some pe_int)) pa_nil)) pe_int) (pe_op op_mul pe_int (pv 1))) pe_int)))
      (pss_cons (ps_set (i := 3) sc_law_pot.nd rfl (Or.inl rfl) (pe_op op_mul (pe_op op_mod (pe_callTy call_int1 (by rfl) T.f_int (by decide +kernel) (pa_cons (pe_callB call_abs (by rfl) T.f_abs (by decide +kernel) (pa_cons (pv 2) pa_nil)) pa_nil)) (pe_op op_powW (pe_op op_powW pe_int pe_int) pe_int)) (pe_callTy call_int1 (by rfl) T.f_int (by decide +kernel) (pa_cons (pe_cmpR op_ge (pe_callB call_abs (by rfl) T.f_abs (by decide +kernel) (pa_cons (pv 2) pa_nil)) (pe_op op_powW pe_int pe_int) (nomark _)) pa_nil))))
      (pss_cons (ps_set (i := 4) sc_law_pot.nd rfl (Or.inl rfl) (pe_op op_mod (pe_callTy call_int1 (by rfl) T.f_int (by decide +kernel) (pa_cons (pv 2) pa_nil)) pe_int))
      (pss_one (ps_ret (pe_lst (pa_cons (pv 3) (pa_cons (pe_op op_mod (pe_callTy call_int1 (by rfl) T.f_int (by decide +kernel) (pa_cons (pe_op op_add (pe_op op_add (pe_op op_mul (pv 4) pe_int) (pe_op op_mul (pe_op op_mul pe_int (pv 1)) (pv 1))) pe_int) pa_nil)) pe_int) (pa_cons pe_int pa_nil))))))))), ?_⟩
    have L : SqL K H a (xs.map V.int) := hx
    show tIf _ _ _ _ _ _
    refine kint_go (fun N kN => ?_) fun c H1 S1 => ?_
    · refine ⟨_, rfl, _, rfl, a, _, rfl, .inl L, _, _, rfl, rfl, _, rfl, ?_⟩
      rw [List.length_map]
      by_cases q : (p : Int) < (xs.length : Int)
      · rw [decide_eq_true q]
        refine iteT ⟨_, rfl, _, rfl, a, _, _, .int (xs.getD p 0), rfl, rfl, L, ?_, kN _ _ (Same.refl _)⟩
        have hq : p < xs.length := by omega
        refine atI_nat ?_
        rw [List.getElem?_map, List.getD, List.getElem?_eq_getElem hq]
        rfl
      · rw [decide_eq_false q]
        obtain ⟨ns, hns⟩ := cutV_ints xs none (some 1)
        refine iteF ⟨_, rfl, 1, rfl, a, _, rfl, L, fun D hD => ⟨D, ns, rfl, ?_, _, _, rfl, rfl, (show (0 : Int) < 1000003 by decide), _, rfl, _, _, rfl, rfl, mulOkL (by decide) (by decide), _, _, rfl, rfl, _, _, rfl, rfl, kN _ _ (Same.new hD)⟩⟩
        rw [← hns]
        exact SqL.of upd_same
    · have ab : 0 ≤ (if c < 0 then -c else c) := by split <;> omega
      have hB : (0 : Int) < (10 ^ Int.toNat 60) ^ Int.toNat 5 := by decide +kernel
      have hBv : ((10 : Int) ^ Int.toNat 60) ^ Int.toNat 5 = 10 ^ 300 := by decide +kernel
      have k01 : ∀ b : Bool, (if b = true then (1 : Int) else 0) = 0 ∨ (if b = true then (1 : Int) else 0) = 1 := fun b => by cases b; exact .inl rfl; exact .inr rfl
      refine ⟨_, rfl, _, rfl, .inl ⟨_, rfl, _, _, rfl, rfl, (by unfold CPowW; decide +kernel), _, _, rfl, rfl, (by unfold CPowW; decide +kernel), _, _, rfl, rfl, hB, ?_⟩⟩
      refine ⟨_, rfl, _, rfl, _, _, rfl, rfl, (by unfold CPowW; decide +kernel), _, _, rfl, rfl, .inr ⟨_, rfl, _, _, rfl, rfl, (by rcases k01 (decide (10 ^ Int.toNat 18 ≤ if c < 0 then -c else c)) with h | h <;> rw [h] <;> exact mulOkR (by decide) (by decide)), ?_⟩⟩
      refine ⟨_, rfl, .inl ⟨_, rfl, _, _, rfl, rfl, (show (0 : Int) < 2305843009213693951 by decide), ?_⟩⟩
      have s0 : 0 ≤ c % 2305843009213693951 := Int.emod_nonneg _ (by decide)
      have s1 : c % 2305843009213693951 < 2305843009213693951 := Int.emod_lt_of_pos _ (by decide)
      refine ⟨_, rfl, _, rfl, _, _, rfl, rfl, mulOkR (by decide) (by decide), _, rfl, _, _, rfl, rfl, mulOkL (by decide) (by decide), _, rfl, _, _, rfl, rfl, mulOkR (by omega) (by omega), _, _, rfl, rfl, _, _, rfl, rfl, .inl ⟨_, rfl, _, _, rfl, rfl, (show (0 : Int) < 2305843009213693921 by decide), (by show 3 ≤ sizeLine; decide), fun D hD => ?_⟩⟩
      have t0 : 0 ≤ (c % 2305843009213693951 * 80846 + 11032 * (p : Int) * p + 1444) % 2305843009213693921 := Int.emod_nonneg _ (by decide)
      have t1 : (c % 2305843009213693951 * 80846 + 11032 * (p : Int) * p + 1444) % 2305843009213693921 < 2305843009213693921 := Int.emod_lt_of_pos _ (by decide)
      have o0 : 0 ≤ (if c < 0 then -c else c) % (10 ^ Int.toNat 60) ^ Int.toNat 5 := Int.emod_nonneg _ (by omega)
      have o1 : (if c < 0 then -c else c) % (10 ^ Int.toNat 60) ^ Int.toNat 5 < 10 ^ 300 := by rw [← hBv]; exact Int.emod_lt_of_pos _ hB
      refine k D _ (S1.put (S1.free hD)) (S1.free hD) ⟨_, _, 0, ?_, ?_, t0, by omega, by decide, by decide, upd_same⟩
      · rcases k01 (decide (10 ^ Int.toNat 18 ≤ if c < 0 then -c else c)) with h | h
        · rw [h, Int.mul_zero]; exact Int.le_refl _
        · rw [h, Int.mul_one]; exact o0
      · rcases k01 (decide (10 ^ Int.toNat 18 ≤ if c < 0 then -c else c)) with h | h
        · rw [h, Int.mul_zero]; decide +kernel
        · rw [h, Int.mul_one]; exact o1
theorem ok_law_take {f : Addr} {fd : FuncData} (T : Txt K w mg) (F : FD K "_law_take" s_law_take f fd) (hm : mg "_law_take" = some (.ref f)) : Cg P w K mg base 1 "_law_take" ["pot", "upto"] sp_law_take := by
  refine cg_of F hm sc_law_take (fun vs H Q E h => ?_) (fun _ _ _ _ _ _ us hl => match us, hl with | [_, _], _ => rfl) (fun _ _ _ _ _ _ us hl => match us, hl with | [_, _], _ => rfl) (fun cdv A outer s H vs Q E hG hr h => ?_)
  · obtain ⟨a, u, m, rfl, _⟩ := h
    rfl
  · obtain ⟨a, u, m, rfl, hu1, hu2, hp, k⟩ := h
    refine ⟨_, (pss_cons (ps_if (pt_cmpR op_gt (pe_ix (show IxR _ (rIxL K) from ix_list) (pv 0) pe_int (fun _ _ => rfl)) pe_int (nomark _)) (pss_cons (ps_set (i := 2) sc_law_take.nd rfl (Or.inl rfl) (pe_op op_mod (pe_callTy call_int1 (by rfl) T.f_int (by decide +kernel) (pa_cons (pe_ix (show IxR _ (rIxL K) from ix_list) (pv 0) pe_int (fun _ _ => rfl)) pa_nil)) (pv 1)))
      (pss_cons (ps_asg (pe_op op_fdiv (pe_ix (show IxR _ (rIxL K) from ix_list) (pv 0) pe_int (fun _ _ => rfl)) (pv 1)) (pg_sub (pv 0) pe_int set_list))
      (pss_one (ps_ret (pv 2))))) pss_nil)
      (pss_cons (ps_asg (pe_op op_add (pe_ix (show IxR _ (rIxL K) from ix_list) (pv 0) pe_int (fun _ _ => rfl)) pe_int) (pg_sub (pv 0) pe_int set_list))
      (pss_cons (ps_set (i := 3) sc_law_take.nd rfl (Or.inl rfl) (pe_ix (show IxR _ (rIxL K) from ix_list) (pe_lst (pa_cons pe_int (pa_cons pe_int (pa_cons pe_int (pa_cons pe_int (pa_cons pe_int pa_nil)))))) (pe_op op_mod (pe_callTy call_int1 (by rfl) T.f_int (by decide +kernel) (pa_cons (pe_ix (show IxR _ (rIxL K) from ix_list) (pv 0) pe_int (fun _ _ => rfl)) pa_nil)) pe_int) (fun _ _ => rfl)))
      (pss_cons (ps_set (i := 4) sc_law_take.nd rfl (Or.inl rfl) (pe_op op_mod (pe_callTy call_int1 (by rfl) T.f_int (by decide +kernel) (pa_cons (pe_op op_powW (pe_callTy call_int1 (by rfl) T.f_int (by decide +kernel) (pa_cons (pe_op op_add (pe_op op_add (pe_ix (show IxR _ (rIxL K) from ix_list) (pv 0) pe_int (fun _ _ => rfl)) (pe_op op_mul (pe_op op_mul pe_int (pe_ix (show IxR _ (rIxL K) from ix_list) (pv 0) pe_int (fun _ _ => rfl))) (pe_ix (show IxR _ (rIxL K) from ix_list) (pv 0) pe_int (fun _ _ => rfl)))) pe_int) pa_nil)) pe_int) pa_nil)) (pv 3)))
      (pss_cons (ps_set (i := 4) sc_law_take.nd rfl (Or.inl rfl) (pe_op op_mod (pe_callTy call_int1 (by rfl) T.f_int (by decide +kernel) (pa_cons (pe_op op_mul (pv 4) (pe_op op_add (pe_op op_mod (pe_callTy call_int1 (by rfl) T.f_int (by decide +kernel) (pa_cons (pv 4) pa_nil)) pe_int) (pe_op op_mul pe_int (pe_ix (show IxR _ (rIxL K) from ix_list) (pv 0) pe_int (fun _ _ => rfl))))) pa_nil)) pe_int))
      (pss_one (ps_ret (pe_op op_mod (pe_callTy call_int1 (by rfl) T.f_int (by decide +kernel) (pa_cons (pe_op op_fdiv (pv 4) pe_int) pa_nil)) (pv 1))))))))), ?_⟩
    obtain ⟨o, t, c, h1, h2, h3, h4, h5, h6, h7⟩ := hp
    have L : SqL K H a [.int o, .int t, .int c] := SqL.of h7
    refine ⟨_, rfl, a, _, 0, .int o, rfl, rfl, L, rfl, _, _, rfl, rfl, _, rfl, ?_⟩
    by_cases q : 0 < o
    · rw [decide_eq_true q]
      refine iteT ⟨_, rfl, a, _, 0, .int o, rfl, rfl, L, rfl, .inl ⟨_, rfl, _, rfl, _, _, rfl, rfl, (by show 0 < u; omega), ?_⟩⟩
      refine ⟨_, rfl, a, _, 0, .int o, rfl, rfl, L, rfl, _, rfl, _, _, rfl, rfl, ⟨by omega, by omega⟩, _, rfl, a, _, 0, 0, rfl, rfl, h7, rfl, ?_⟩
      refine ⟨_, rfl, ?_⟩
      refine k _ _ But.put ⟨o / u, t, c, Int.ediv_nonneg h1 (by omega), ?_, h3, h4, h5, by omega, upd_same⟩ (Int.emod_nonneg _ (by omega)) (Int.emod_lt_of_pos _ (by omega))
      have := Int.ediv_le_self u h1
      omega
    · rw [decide_eq_false q]
      refine iteF ?_
      refine ⟨_, rfl, a, _, 2, .int c, rfl, rfl, L, rfl, _, _, rfl, rfl, _, rfl, a, _, 2, 2, rfl, rfl, h7, rfl, ?_⟩
      have e1 : (upd H a (.lst [.int o, .int t, .int (c + 1)])) a = some (.lst [.int o, .int t, .int (c + 1)]) := upd_same
      have L1 : SqL K (upd H a (.lst [.int o, .int t, .int (c + 1)])) a [.int o, .int t, .int (c + 1)] := SqL.of e1
      have B1 : But a H (upd H a (.lst [.int o, .int t, .int (c + 1)])) := But.put
      show tSeq _ _ _ _ (upd H a (.lst [.int o, .int t, .int (c + 1)]))
      revert e1 L1 B1
      generalize upd H a (.lst [.int o, .int t, .int (c + 1)]) = H1
      intro e1 L1 B1
      obtain ⟨p, hp, p1, p2⟩ := prime_at (c + 1)
      refine ⟨by show 5 ≤ sizeLine; decide, fun D hD => ⟨_, rfl, a, _, 2, .int (c + 1), rfl, rfl, SqL.of (Same.new hD _ _ e1), rfl, .inl ⟨_, rfl, _, _, rfl, rfl, (show (0 : Int) < 5 by decide), D, _, _, _, rfl, rfl, SqL.of upd_same, hp, ?_⟩⟩⟩
      have e2 := Same.new (o := .lst [V.int 2147483647, V.int 2147483629, V.int 2147483587, V.int 2147483579, V.int 2147483563]) hD _ _ e1
      have B2 := B1.trans (But.new (a := a) (o := .lst [V.int 2147483647, V.int 2147483629, V.int 2147483587, V.int 2147483579, V.int 2147483563]) hD)
      show tSeq _ _ _ _ (upd H1 D (.lst [V.int 2147483647, V.int 2147483629, V.int 2147483587, V.int 2147483579, V.int 2147483563]))
      revert e2 B2
      generalize upd H1 D (.lst [V.int 2147483647, V.int 2147483629, V.int 2147483587, V.int 2147483579, V.int 2147483563]) = H2
      intro e2 B2
      have L2 : SqL K H2 a [.int o, .int t, .int (c + 1)] := SqL.of e2
      refine ⟨_, rfl, a, _, 1, .int t, rfl, rfl, L2, rfl, _, rfl, a, _, 2, .int (c + 1), rfl, rfl, L2, rfl, _, _, rfl, rfl, mulOkL (by decide) (by decide), _, rfl, a, _, 2, .int (c + 1), rfl, rfl, L2, rfl, _, _, rfl, rfl, mulOkR (by omega) (by omega), _, _, rfl, rfl, _, _, rfl, rfl, .inl ⟨_, rfl, _, _, rfl, rfl, pow3Ok ?_ ?_, .inl ⟨_, rfl, _, rfl, _, _, rfl, rfl, (show 0 < p by omega), ?_⟩⟩⟩
      · have : 0 ≤ (c + 1) * (c + 1) := Int.mul_nonneg (by omega) (by omega)
        rw [Int.mul_assoc]
        omega
      · have : (c + 1) * (c + 1) ≤ 10001 * 10001 := Int.mul_le_mul (by omega) (by omega) (by omega) (by decide)
        rw [Int.mul_assoc]
        omega
      have b0 : 0 ≤ (t + 104728 * (c + 1) * (c + 1) + 1912) ^ Int.toNat 3 % p := Int.emod_nonneg _ (by omega)
      have b1 : (t + 104728 * (c + 1) * (c + 1) + 1912) ^ Int.toNat 3 % p < p := Int.emod_lt_of_pos _ (by omega)
      refine ⟨_, rfl, _, rfl, .inl ⟨_, rfl, _, _, rfl, rfl, (show (0 : Int) < 12226 by decide), _, rfl, a, _, 2, .int (c + 1), rfl, rfl, L2, rfl, _, _, rfl, rfl, mulOkL (by decide) (by decide), _, _, rfl, rfl, _, _, rfl, rfl, mulOkL b0 (by omega), .inl ⟨_, rfl, _, _, rfl, rfl, (show (0 : Int) < 2305843009213693907 by decide), ?_⟩⟩⟩
      refine ⟨_, rfl, _, _, rfl, rfl, (by constructor <;> omega), .inl ⟨_, rfl, _, rfl, _, _, rfl, rfl, (show 0 < u by omega), ?_⟩⟩
      exact k _ _ B2 ⟨o, t, c + 1, h1, h2, h3, h4, by omega, by omega, e2⟩ (Int.emod_nonneg _ (by omega)) (Int.emod_lt_of_pos _ (by omega))
theorem ok_law_of {f : Addr} {fd : FuncData} (T : Txt K w mg) (F : FD K "_law_of" s_law_of f fd) (hm : mg "_law_of" = some (.ref f)) (c_law_take : Cg P w K mg base 1 "_law_take" ["pot", "upto"] sp_law_take) : Cg P w K mg base 2 "_law_of" ["pot", "some"] sp_law_of := by
  refine cg_of F hm sc_law_of (fun vs H Q E h => ?_) (fun _ _ _ _ _ _ us hl => match us, hl with | [_, _], _ => rfl) (fun _ _ _ _ _ _ us hl => match us, hl with | [_, _], _ => rfl) (fun cdv A outer s H vs Q E hG hr h => ?_)
  · obtain ⟨a, v, m, rfl, _⟩ := h
    rfl
  · obtain ⟨a, v, m, rfl, hp, h⟩ := h
    refine ⟨_, (pss_one (ps_ret (pe_ix (IxR.or ix_str (show IxR _ (rIxL K) from ix_list)) (pv 1) (pe_g c_law_take hG hr (by decide) rfl (pa_cons (pv 0) (pa_cons (pe_callB (CallR.or call_len_str call_len_seq) (by rfl) T.f_len PySem.boot_len (pa_cons (pv 1) pa_nil)) pa_nil))) (fun _ _ => rfl)))), ?_⟩
    rcases h with ⟨b, xs, rfl, ne, hb, l1, l2, k⟩ | ⟨l, rfl, l1, l2, k⟩
    · refine ⟨_, rfl, _, rfl, _, rfl, .inr ⟨b, xs, rfl, .inl (SqL.of hb), a, _, m, rfl, by omega, by omega, hp, fun d H2 B P2 d0 d1 => ?_⟩⟩
      obtain ⟨n, rfl⟩ : ∃ n : Nat, d = n := ⟨d.toNat, by omega⟩
      have hd : n < xs.length := by omega
      exact .inr ⟨b, xs, n, xs[n], rfl, rfl, SqL.of (B _ _ ne hb), atI_nat (List.getElem?_eq_getElem hd), k _ _ (List.getElem_mem hd) B P2⟩
    · refine ⟨_, rfl, _, rfl, _, rfl, .inl ⟨_, rfl, by rw [S_len, sizeLine_eq]; omega, a, _, m, rfl, by rw [S_len]; omega, by rw [S_len]; omega, hp, fun d H2 B P2 d0 d1 => ?_⟩⟩
      rw [S_len] at d1
      obtain ⟨n, rfl⟩ : ∃ n : Nat, d = n := ⟨d.toNat, by omega⟩
      have hd : n < l.length := by omega
      exact .inl ⟨S l, n, l[n], rfl, rfl, by rw [S_len, sizeLine_eq]; omega, atI_nat (by rw [S_cps]; exact List.getElem?_eq_getElem hd), k _ _ (List.getElem_mem hd) B P2⟩
theorem ok_law_cells {f : Addr} {fd : FuncData} (T : Txt K w mg) (F : FD K "_law_cells" s_law_cells f fd) (hm : mg "_law_cells" = some (.ref f)) : Cg P w K mg base 1 "_law_cells" ["script", "most"] (sp_law_cells K) := by
  refine cg_of F hm sc_law_cells (fun vs H Q E h => ?_) (fun _ _ _ _ _ _ us hl => match us, hl with | [_, _], _ => rfl) (fun _ _ _ _ _ _ us hl => match us, hl with | [_, _], _ => rfl) (fun cdv A outer s H vs Q E hG hr h => ?_)
  · obtain ⟨a, xs, m, rfl, _⟩ := h
    rfl
  · obtain ⟨a, xs, m, rfl, hx, hm1, hm2, k⟩ := h
    refine ⟨_, (pss_one (ps_ret (pe_listRg rfl rfl T.f_list (prg_1 rfl T.f_range (pe_callB (call_max2 rfl) (by rfl) T.f_max (by decide +kernel) (pa_cons pe_int (pa_cons (pe_callB (call_min2 rfl) (by rfl) T.f_min (by decide +kernel) (pa_cons (pv 1) (pa_cons (pe_callB call_len_seq (by rfl) T.f_len PySem.boot_len (pa_cons (pv 0) pa_nil)) pa_nil))) pa_nil))))))), ?_⟩
    have L : SqL K H a (xs.map V.int) := hx
    refine ⟨_, rfl, _, rfl, a, _, rfl, .inl L, _, _, rfl, _, _, rfl, _, rfl, ?_, fun q hq => ?_⟩
    · rw [List.length_map]
      refine RgOk.of_le (by decide) ?_ (by decide) ?_ <;> (split <;> (try split) <;> omega)
    · obtain ⟨n, hn, h10⟩ : ∃ n : Nat, (if (if ((xs.map V.int).length : Int) < (m : Int) then ((xs.map V.int).length : Int) else (m : Int)) > 1 then (if ((xs.map V.int).length : Int) < (m : Int) then ((xs.map V.int).length : Int) else (m : Int)) else 1) = (n : Int) ∧ n ≤ 10 := by
        rw [List.length_map]
        by_cases h : (xs.length : Int) < (m : Int)
        · rw [if_pos h]
          by_cases h2 : (xs.length : Int) > 1
          · rw [if_pos h2]; exact ⟨_, rfl, by omega⟩
          · rw [if_neg h2]; exact ⟨1, rfl, by omega⟩
        · rw [if_neg h]
          by_cases h2 : (m : Int) > 1
          · rw [if_pos h2]; exact ⟨_, rfl, by omega⟩
          · rw [if_neg h2]; exact ⟨1, rfl, by omega⟩
      rw [hn]
      refine k n q _ h10 (Same.new hq) hq ?_
      rw [upd_same]
      unfold rgV
      have e : ((n : Int) - 0).toNat = n := by omega
      rw [e]
      congr 2
      apply List.map_congr_left
      intro i _
      rw [Int.zero_add]
theorem ok_law_map_is_key {f : Addr} {fd : FuncData} (T : Txt K w mg) (F : FD K "_law_map_is_key" s_law_map_is_key f fd) (hm : mg "_law_map_is_key" = some (.ref f)) : Cg P w K mg base 1 "_law_map_is_key" ["value"] sp_law_map_is_key := by
  refine cg_of F hm sc_law_map_is_key (fun vs H Q E h => ?_) (fun _ _ _ _ _ _ us hl => match us, hl with | [_], _ => rfl) (fun _ _ _ _ _ _ us hl => match us, hl with | [_], _ => rfl) (fun cdv A outer s H vs Q E hG hr h => ?_)
  · obtain ⟨w, rfl, _⟩ := h
    rfl
  · obtain ⟨w, rfl, hw, k⟩ := h
    refine ⟨_, (pss_one (ps_ret (pe_and (pe_callB call_isi (by rfl) T.f_isinstance (by decide +kernel) (pa_cons (pv 0) (pa_cons (pe_bltn (v := .ty "str") rfl T.f_str (by decide +kernel) rfl) pa_nil))) (pe_and (pe_chain op_le op_le pe_int (pe_callB call_len_str (by rfl) T.f_len PySem.boot_len (pa_cons (pv 0) pa_nil)) pe_int) (pe_one (pe_callB (cr_all rfl) (by rfl) T.f_all (by decide +kernel) (pa_cons (pe_lc (own := [("sign", 1)]) rfl sc_law_map_is_key.nd (pi_str (pv 0)) (blkOk_by (N := ["value", "sign"]) (sc := defScope s_law_map_is_key) (by decide +kernel)) (fun _ _ _ _ _ => (pg_name (i := 1) sc_law_map_is_key.nd rfl (Or.inl rfl))) (fun _ _ _ _ _ => pts_nil) (fun _ _ _ _ _ => (pe_chain op_le_str op_le_str pe_str (pv 1) pe_str))) pa_nil))))))), ?_⟩
    have hl := hw.ln
    have zw : (S w).length ≤ sizeLine := by rw [S_len, sizeLine_eq]; omega
    refine ⟨_, rfl, _, _, _, _, true, rfl, .ty _, .base (.str _), kit_ty (by decide +kernel), _, rfl, iteT ?_⟩
    refine ⟨_, rfl, _, rfl, zw, _, _, rfl, rfl, _, rfl, ?_⟩
    rw [S_len]
    by_cases h1 : (1 : Int) ≤ (w.length : Int)
    rotate_left
    · rw [decide_eq_false h1]
      rw [show keyB w = false from decide_eq_false (fun q => by omega)] at k
      exact iteF ⟨_, rfl, iteF (k _ (Same.refl _))⟩
    rw [decide_eq_true h1]
    refine iteT ⟨_, _, rfl, rfl, _, rfl, ?_⟩
    by_cases h2 : (w.length : Int) ≤ 13
    rotate_left
    · rw [decide_eq_false h2]
      rw [show keyB w = false from decide_eq_false (fun q => by omega)] at k
      exact iteF (k _ (Same.refl _))
    rw [decide_eq_true h2]
    refine iteT ⟨_, rfl, _, rfl, fun D hD => lc_it walk_str (fun i H' => Same H H' ∧ H' D = some (.lst (((w.take i).map fun c => decide (33 ≤ c ∧ c ≤ 126)).map V.bl))) ⟨Same.new hD, upd_same⟩ (fun _ _ _ _ => trivial) ?_ ?_⟩
    · rintro i x H1 H2 hi ⟨s1, x1⟩ ⟨rfl, c, hx, rfl⟩
      rw [S_get] at hx
      have hc := hw.sg c (List.mem_of_getElem? hx)
      refine ⟨rfl, yes_of ⟨_, rfl, _, _, rfl, rfl, _, rfl, ?_⟩⟩
      show (if (!decide ([c] < (Str.ofString "!").cps.toList)) = true then _ else _)
      rw [e_33, lt_one]
      have fin : ∀ b : Bool, b = decide (33 ≤ c ∧ c ≤ 126) → ∃ acc, H2 D = some (.lst acc) ∧ acc.length < sizeLine ∧ Same H (upd H2 D (.lst (acc ++ [V.bl b]))) ∧ (upd H2 D (.lst (acc ++ [V.bl b]))) D = some (.lst (((w.take (i + 1)).map fun c => decide (33 ≤ c ∧ c ≤ 126)).map V.bl)) := by
        intro b hb
        refine ⟨_, x1, by rw [List.length_map, List.length_map, List.length_take, sizeLine_eq]; omega, s1.put hD, ?_⟩
        rw [upd_same, hb, bl_snoc (f := fun c => decide (33 ≤ c ∧ c ≤ 126)) hx]
      by_cases g1 : c < 33
      · rw [decide_eq_true g1]
        exact iteF (fin false (decide_eq_false (by omega)).symm)
      rw [decide_eq_false g1]
      refine iteT ⟨_, _, rfl, rfl, ?_⟩
      refine fin _ ?_
      show (!decide ((Str.ofString "~").cps.toList < [c])) = _
      rw [e_126, lt_one, Bool.eq_iff_iff, decide_eq_true_iff, Bool.not_eq_true', decide_eq_false_iff_not]
      omega
    · rintro H1 ⟨s1, x1⟩
      rw [S_size, List.take_length] at x1
      rw [key_all hw (by omega)] at k
      exact ⟨D, _, rfl, SqL.of x1, k _ s1⟩
theorem ok_law_map_is_value {f : Addr} {fd : FuncData} (T : Txt K w mg) (F : FD K "_law_map_is_value" s_law_map_is_value f fd) (hm : mg "_law_map_is_value" = some (.ref f)) : Cg P w K mg base 1 "_law_map_is_value" ["value"] sp_law_map_is_value := by
  refine cg_of F hm sc_law_map_is_value (fun vs H Q E h => ?_) (fun _ _ _ _ _ _ us hl => match us, hl with | [_], _ => rfl) (fun _ _ _ _ _ _ us hl => match us, hl with | [_], _ => rfl) (fun cdv A outer s H vs Q E hG hr h => ?_)
  · obtain ⟨w, rfl, _⟩ := h
    rfl
  · obtain ⟨w, rfl, hw, k⟩ := h
    refine ⟨_, (pss_one (ps_ret (pe_and (pe_callB call_isi (by rfl) T.f_isinstance (by decide +kernel) (pa_cons (pv 0) (pa_cons (pe_bltn (v := .ty "str") rfl T.f_str (by decide +kernel) rfl) pa_nil))) (pe_and (pe_chain op_le op_le pe_int (pe_callB call_len_str (by rfl) T.f_len PySem.boot_len (pa_cons (pv 0) pa_nil)) pe_int) (pe_one (pe_callB (cr_all rfl) (by rfl) T.f_all (by decide +kernel) (pa_cons (pe_lc (own := [("sign", 1)]) rfl sc_law_map_is_value.nd (pi_str (pv 0)) (blkOk_by (N := ["value", "sign"]) (sc := defScope s_law_map_is_value) (by decide +kernel)) (fun _ _ _ _ _ => (pg_name (i := 1) sc_law_map_is_value.nd rfl (Or.inl rfl))) (fun _ _ _ _ _ => pts_nil) (fun _ _ _ _ _ => (pe_chain op_le_str op_le_str pe_str (pv 1) pe_str))) pa_nil))))))), ?_⟩
    have hl := hw.ln
    have zw : (S w).length ≤ sizeLine := by rw [S_len, sizeLine_eq]; omega
    refine ⟨_, rfl, _, _, _, _, true, rfl, .ty _, .base (.str _), kit_ty (by decide +kernel), _, rfl, iteT ?_⟩
    refine ⟨_, rfl, _, rfl, zw, _, _, rfl, rfl, _, rfl, ?_⟩
    rw [S_len]
    by_cases h1 : (1 : Int) ≤ (w.length : Int)
    rotate_left
    · rw [decide_eq_false h1]
      rw [show valB w = false from decide_eq_false (fun q => by omega)] at k
      exact iteF ⟨_, rfl, iteF (k _ (Same.refl _))⟩
    rw [decide_eq_true h1]
    refine iteT ⟨_, _, rfl, rfl, _, rfl, ?_⟩
    by_cases h2 : (w.length : Int) ≤ 13
    rotate_left
    · rw [decide_eq_false h2]
      rw [show valB w = false from decide_eq_false (fun q => by omega)] at k
      exact iteF (k _ (Same.refl _))
    rw [decide_eq_true h2]
    refine iteT ⟨_, rfl, _, rfl, fun D hD => lc_it walk_str (fun i H' => Same H H' ∧ H' D = some (.lst (((w.take i).map fun c => decide (32 ≤ c ∧ c ≤ 126)).map V.bl))) ⟨Same.new hD, upd_same⟩ (fun _ _ _ _ => trivial) ?_ ?_⟩
    · rintro i x H1 H2 hi ⟨s1, x1⟩ ⟨rfl, c, hx, rfl⟩
      rw [S_get] at hx
      have hc := hw.sg c (List.mem_of_getElem? hx)
      refine ⟨rfl, yes_of ⟨_, rfl, _, _, rfl, rfl, _, rfl, ?_⟩⟩
      show (if (!decide ([c] < (Str.ofString " ").cps.toList)) = true then _ else _)
      rw [e_32, lt_one]
      have fin : ∀ b : Bool, b = decide (32 ≤ c ∧ c ≤ 126) → ∃ acc, H2 D = some (.lst acc) ∧ acc.length < sizeLine ∧ Same H (upd H2 D (.lst (acc ++ [V.bl b]))) ∧ (upd H2 D (.lst (acc ++ [V.bl b]))) D = some (.lst (((w.take (i + 1)).map fun c => decide (32 ≤ c ∧ c ≤ 126)).map V.bl)) := by
        intro b hb
        refine ⟨_, x1, by rw [List.length_map, List.length_map, List.length_take, sizeLine_eq]; omega, s1.put hD, ?_⟩
        rw [upd_same, hb, bl_snoc (f := fun c => decide (32 ≤ c ∧ c ≤ 126)) hx]
      by_cases g1 : c < 32
      · rw [decide_eq_true g1]
        exact iteF (fin false (decide_eq_false (by omega)).symm)
      rw [decide_eq_false g1]
      refine iteT ⟨_, _, rfl, rfl, ?_⟩
      refine fin _ ?_
      show (!decide ((Str.ofString "~").cps.toList < [c])) = _
      rw [e_126, lt_one, Bool.eq_iff_iff, decide_eq_true_iff, Bool.not_eq_true', decide_eq_false_iff_not]
      omega
    · rintro H1 ⟨s1, x1⟩
      rw [S_size, List.take_length] at x1
      rw [val_all hw (by omega)] at k
      exact ⟨D, _, rfl, SqL.of x1, k _ s1⟩
theorem ok_law_map_number {f : Addr} {fd : FuncData} (T : Txt K w mg) (F : FD K "_law_map_number" s_law_map_number f fd) (hm : mg "_law_map_number" = some (.ref f)) : Cg P w K mg base 1 "_law_map_number" ["word"] sp_law_map_number := by
  refine cg_of F hm sc_law_map_number (fun vs H Q E h => ?_) (fun _ _ _ _ _ _ us hl => match us, hl with | [_], _ => rfl) (fun _ _ _ _ _ _ us hl => match us, hl with | [_], _ => rfl) (fun cdv A outer s H vs Q E hG hr h => ?_)
  · obtain ⟨w, rfl, _⟩ := h
    rfl
  · obtain ⟨w, rfl, hw, k⟩ := h
    refine ⟨_, (pss_cons (ps_if (PW.pt (pw_or (pt_not (pt_chain op_le op_le pe_int (pe_callB call_len_str (by rfl) T.f_len PySem.boot_len (pa_cons (pv 0) pa_nil)) pe_int)) (pw_or1 (pt_not (pt_val (pe_callB (cr_all rfl) (by rfl) T.f_all (by decide +kernel) (pa_cons (pe_lc (own := [("sign", 1)]) rfl sc_law_map_number.nd (pi_str (pv 0)) (blkOk_by (N := ["word", "sign"]) (sc := defScope s_law_map_number) (by decide +kernel)) (fun _ _ _ _ _ => (pg_name (i := 1) sc_law_map_number.nd rfl (Or.inl rfl))) (fun _ _ _ _ _ => pts_nil) (fun _ _ _ _ _ => (pe_cmpR op_in_sign (pv 1) pe_str (by rfl)))) pa_nil))))))) (pss_one (ps_ret pe_non)) pss_nil)
      (pss_one (ps_ret (pe_ifExp (PW.pt (pw_or (pt_cmpR op_eq (pv 0) pe_str (nomark _)) (pw_or1 (pt_cmpR op_ne (pe_ix ix_str (pv 0) pe_int (fun _ _ => rfl)) pe_str (nomark _))))) (pe_callTy call_int_str (by rfl) T.f_int (by decide +kernel) (pa_cons (pv 0) pa_nil)) pe_non)))), ?_⟩
    have hl := hw.ln
    have zw : (S w).length ≤ sizeLine := by rw [S_len, sizeLine_eq]; omega
    refine ⟨_, rfl, _, rfl, zw, _, _, rfl, rfl, _, rfl, ?_⟩
    rw [S_len]
    have no : ∀ h : ¬ (1 ≤ w.length ∧ w.length ≤ 12 ∧ ∀ c ∈ w, 48 ≤ c ∧ c ≤ 57), Q (V.non) H := fun h => by
      rw [telN_none (fun q => h ⟨by cases w with | nil => exact absurd rfl q.1 | cons c r => simp, hw.nm q.2.1, q.2.1⟩)] at k
      exact k _ (Same.refl _)
    by_cases h1 : (1 : Int) ≤ (w.length : Int)
    rotate_left
    · rw [decide_eq_false h1]
      exact iteF ⟨_, rfl, iteT (iteT (no (fun q => by omega)))⟩
    rw [decide_eq_true h1]
    refine iteT ⟨_, _, rfl, rfl, _, rfl, ?_⟩
    by_cases h2 : (w.length : Int) ≤ 12
    rotate_left
    · rw [decide_eq_false h2]
      exact iteT (iteT (no (fun q => by omega)))
    rw [decide_eq_true h2]
    refine iteF ⟨_, rfl, _, rfl, fun D hD => lc_it walk_str (fun i H' => Same H H' ∧ H' D = some (.lst (((w.take i).map fun c => decide (48 ≤ c ∧ c ≤ 57)).map V.bl))) ⟨Same.new hD, upd_same⟩ (fun _ _ _ _ => trivial) ?_ ?_⟩
    · rintro i x H1 H2 hi ⟨s1, x1⟩ ⟨rfl, c, hx, rfl⟩
      rw [S_get] at hx
      refine ⟨rfl, yes_of ⟨_, rfl, c, _, rfl, rfl, _, x1, by rw [List.length_map, List.length_map, List.length_take, sizeLine_eq]; omega, s1.put hD, ?_⟩⟩
      rw [upd_same, e_figs, show decide (c ∈ ([48, 49, 50, 51, 52, 53, 54, 55, 56, 57] : List Nat)) = decide (48 ≤ c ∧ c ≤ 57) from by rw [Bool.eq_iff_iff, decide_eq_true_iff, decide_eq_true_iff]; exact mem_fig c, bl_snoc (f := fun c => decide (48 ≤ c ∧ c ≤ 57)) hx]
    rintro H1 ⟨s1, x1⟩
    rw [S_size, List.take_length] at x1
    have k1 : Q (optV (telN w)) H1 := k _ s1
    refine ⟨D, _, rfl, SqL.of x1, _, rfl, ?_⟩
    rw [all_map]
    by_cases hd : ∀ c ∈ w, decide (48 ≤ c ∧ c ≤ 57) = true
    rotate_left
    · rw [decide_eq_false hd]
      rw [telN_none (fun q => hd fun c hc => decide_eq_true (q.2.1 c hc))] at k1
      exact iteT k1
    rw [decide_eq_true hd]
    have hd2 : ∀ c ∈ w, 48 ≤ c ∧ c ≤ 57 := fun c hc => of_decide_eq_true (hd c hc)
    refine iteF ?_
    obtain ⟨c, r, rfl⟩ : ∃ c r, w = c :: r := by
      cases w with
      | nil => exact absurd h1 (by decide)
      | cons c r => exact ⟨c, r, rfl⟩
    refine ⟨_, rfl, rfl, _, rfl, ?_⟩
    rw [e_0, S_dec]
    have h0 : c :: r ≠ [] := fun q => nomatch q
    by_cases g1 : c :: r = [48]
    · rw [decide_eq_true g1]
      rw [telN_some ⟨h0, hd2, fun _ => g1⟩] at k1
      exact iteT (iteT ⟨_, rfl, _, _, rfl, intT h0 hd2 (by omega), by rw [S_len]; omega, k1⟩)
    rw [decide_eq_false g1]
    refine iteF ⟨_, rfl, _, 0, c, rfl, rfl, zw, (by rw [S_cps]; exact atI_nat (j := 0) rfl), rfl, _, rfl, ?_⟩
    rw [← S_one, S_dec]
    by_cases g2 : c = 48
    · rw [decide_eq_true (show [c] = [48] by rw [g2])]
      rw [telN_none (fun q => g1 (q.2.2 (by rw [g2]; rfl)))] at k1
      exact iteF k1
    · rw [decide_eq_false (show ¬ [c] = [48] from fun q => g2 (List.cons.inj q).1)]
      rw [telN_some ⟨h0, hd2, fun q => absurd (Option.some.inj q) g2⟩] at k1
      exact iteT ⟨_, rfl, _, _, rfl, intT h0 hd2 (by omega), by rw [S_len]; omega, k1⟩
theorem ok_law_map_sheet {f : Addr} {fd : FuncData} (T : Txt K w mg) (F : FD K "_law_map_sheet" s_law_map_sheet f fd) (hm : mg "_law_map_sheet" = some (.ref f)) (c_law_map_number : Cg P w K mg base 1 "_law_map_number" ["word"] sp_law_map_number) (c_law_map_is_key : Cg P w K mg base 1 "_law_map_is_key" ["value"] sp_law_map_is_key) (c_law_map_is_value : Cg P w K mg base 1 "_law_map_is_value" ["value"] sp_law_map_is_value) : Cg P w K mg base 2 "_law_map_sheet" ["text"] sp_law_map_sheet := by
  refine cg_of F hm sc_law_map_sheet (fun vs H Q E h => ?_) (fun _ _ _ _ _ _ us hl => match us, hl with | [_], _ => rfl) (fun _ _ _ _ _ _ us hl => match us, hl with | [_], _ => rfl) (fun cdv A outer s H vs Q E hG hr h => ?_)
  · obtain ⟨ws, rfl, _⟩ := h
    rfl
  · obtain ⟨ws, rfl, h0, hw, hl, k⟩ := h
    refine ⟨_, (pss_cons (ps_set (i := 1) sc_law_map_sheet.nd rfl (Or.inl rfl) (pe_bm PySem.F.plainAttrs_str PySem.F.slot_str_split PySem.F.type_str_split mt_split (pv 0) (pa_cons pe_str pa_nil)))
      (pss_cons (ps_set (i := 2) sc_law_map_sheet.nd rfl (Or.inl rfl) (pe_dget1 (Nat.lt_of_le_of_lt (Nat.add_le_add_left (by decide) _) hr.units) (pe_disp (pps_cons pe_str pe_str (pps_cons pe_str pe_str pps_nil)) rfl rfl (by intro h; cases h) (by show 2 ≤ 15; decide)) (pe_ix (show IxR _ (rIxL K) from ix_list) (pv 1) pe_int (fun _ _ => rfl)) ⟨rfl, rfl, rfl, rfl⟩))
      (pss_cons (ps_if (PW.pt (pw_or (pt_cmp (pc_isN (pv 2))) (pw_or1 (pt_cmpR op_eq (pe_op op_mod (pe_callB call_len_seq (by rfl) T.f_len PySem.boot_len (pa_cons (pv 1) pa_nil)) pe_int) pe_int (nomark _))))) (pss_one (ps_ret pe_non)) pss_nil)
      (pss_cons (ps_par (i := 3) (j := 4) rfl sc_law_map_sheet.nd rfl rfl (by decide) rfl rfl (pa_cons (pe_alt (pv 1)) (pa_cons (pe_alt (pv 1)) pa_nil)) (by rfl))
      (pss_cons (ps_set (i := 4) sc_law_map_sheet.nd rfl (Or.inl rfl) (pe_ifExp (pt_cmpR op_eq (pv 2) pe_str (nomark _)) (pv 4) (pe_lc (own := [("word", 5)]) rfl sc_law_map_sheet.nd (pi_list (pv 4)) (blkOk_by (N := ["text", "words", "kind", "keys", "told", "word", "key", "one"]) (sc := defScope s_law_map_sheet) (by decide +kernel)) (fun _ _ _ _ _ => (pg_name (i := 5) sc_law_map_sheet.nd rfl (Or.inl rfl))) (fun _ _ _ _ _ => pts_nil) (fun _ _ _ _ _ => (pe_g c_law_map_number hG hr (by decide) rfl (pa_cons (pv 5) pa_nil))))))
      (pss_cons (ps_if (PW.pt (pw_or (pt_not (pt_chain op_le op_le (pe_ifExp (pt_cmpR op_eq (pv 2) pe_str (nomark _)) pe_int pe_int) (pe_callB call_len_seq (by rfl) T.f_len PySem.boot_len (pa_cons (pv 3) pa_nil)) pe_int)) (pw_or1 (pt_not (pt_val (pe_callB (cr_all rfl) (by rfl) T.f_all (by decide +kernel) (pa_cons (pe_lc (own := [("key", 6)]) rfl sc_law_map_sheet.nd (pi_list (pv 3)) (blkOk_by (N := ["text", "words", "kind", "keys", "told", "word", "key", "one"]) (sc := defScope s_law_map_sheet) (by decide +kernel)) (fun _ _ _ _ _ => (pg_name (i := 6) sc_law_map_sheet.nd rfl (Or.inl rfl))) (fun _ _ _ _ _ => pts_nil) (fun _ _ _ _ _ => (pe_g c_law_map_is_key hG hr (by decide) rfl (pa_cons (pv 6) pa_nil)))) pa_nil))))))) (pss_one (ps_ret pe_non)) pss_nil)
      (pss_cons (ps_if (PW.pt (pw_or (pt_cmpR (op_neD hr.units) (pv 3) (pe_callB (show CallR _ _ (rSortTx w) from call_sortTx rfl) (by rfl) T.f_sorted (by decide +kernel) (pa_cons (pe_callTy (show CallR _ _ (rSetTx K w) from call_setTx rfl) (by rfl) T.f_set (by decide +kernel) (pa_cons (pv 3) pa_nil)) pa_nil)) (nomark _)) (pw_or1 (pt_cmpR op_in_seq pe_non (pv 4) (by rfl))))) (pss_one (ps_ret pe_non)) pss_nil)
      (pss_cons (ps_if (PW.pt (pw_and (pt_cmpR op_eq (pv 2) pe_str (nomark _)) (pw_and1 (pt_not (pt_val (pe_callB (cr_all rfl) (by rfl) T.f_all (by decide +kernel) (pa_cons (pe_lc (own := [("one", 7)]) rfl sc_law_map_sheet.nd (pi_list (pv 4)) (blkOk_by (N := ["text", "words", "kind", "keys", "told", "word", "key", "one"]) (sc := defScope s_law_map_sheet) (by decide +kernel)) (fun _ _ _ _ _ => (pg_name (i := 7) sc_law_map_sheet.nd rfl (Or.inl rfl))) (fun _ _ _ _ _ => pts_nil) (fun _ _ _ _ _ => (pe_g c_law_map_is_value hG hr (by decide) rfl (pa_cons (pv 7) pa_nil)))) pa_nil))))))) (pss_one (ps_ret pe_non)) pss_nil)
      (pss_one (ps_ret (pe_tup (pa_cons (pv 2) (pa_cons (pe_listZip rfl rfl T.f_list (by decide +kernel) rfl T.f_zip (pa_cons (pv 3) (pa_cons (pv 4) pa_nil))) pa_nil))))))))))))), ?_⟩
    obtain ⟨f, r, rfl⟩ : ∃ f r, ws = f :: r := by
      cases ws with
      | nil => exact absurd rfl h0
      | cons f r => exact ⟨f, r, rfl⟩
    have hr : r.length ≤ 900 := by
      have := J10_len (f :: r)
      rw [List.length_cons] at this
      omega
    have wf := hw f List.mem_cons_self
    have wr : ∀ w ∈ r, Wd w := fun w h => hw w (List.mem_cons_of_mem _ h)
    refine ⟨_, rfl, rfl, _, _, rfl, rfl, (by rw [e_nl]; rfl), (by rw [S_len, sizeLine_eq]; omega), ?_⟩
    rw [e_nl, split_J10 h0 (fun w h => (hw w h).no10)]
    intro p np
    rw [map_wV]
    have S1 : Same H (upd H p (.lst ((f :: r).map wV))) := Same.new np
    have L1 : (upd H p (.lst ((f :: r).map wV))) p = some (.lst ((f :: r).map wV)) := upd_same
    revert S1 L1
    show _ → _ → gName 1 (V.ref p) _ (upd H p (.lst ((f :: r).map wV))) _
    generalize upd H p (.lst ((f :: r).map wV)) = H1
    intro S1 L1
    refine fun d nd => ⟨upd_same, LF, rfl, by decide, d, rfl, .inl ⟨_, .inl upd_same⟩, ?_⟩
    rw [LF_merge, upd_upd]
    have S2 : Same H (upd H1 d (.dK LF)) := S1.put (S1.free nd)
    have L2 : (upd H1 d (.dK LF)) p = some (.lst ((f :: r).map wV)) := Same.new nd _ _ L1
    refine ⟨_, rfl, p, _, 0, wV f, rfl, rfl, SqL.of L2, atI_nat (j := 0) rfl, _, .inl ⟨LF, .inr (S f), .inl upd_same, rfl, rfl⟩, ?_⟩
    rw [LF_get]
    revert S2 L2
    generalize upd H1 d (.dK LF) = H2
    intro S2 L2
    by_cases hf : f = [108] ∨ f = [102]
    rotate_left
    · rw [if_neg hf]
      exact ⟨_, rfl, _, rfl, iteT (iteT (k _ _ S2 (by rw [parse_none fun q => hf q.1]; rfl)))⟩
    rw [if_pos hf]
    refine ⟨_, rfl, _, rfl, iteF ⟨_, rfl, p, _, rfl, .inl (SqL.of L2), _, _, rfl, rfl, (show (0 : Int) < 2 by decide), rfl, _, rfl, ?_⟩⟩
    rw [List.length_map, List.length_cons]
    by_cases h2 : r.length % 2 = 1
    · rw [show decide (V.int (((r.length + 1 : Nat) : Int) % 2) = V.int 0) = true from decide_eq_true (congrArg V.int (by omega))]
      exact iteT (k _ _ S2 (by rw [parse_none fun q => by omega]; rfl))
    rw [show decide (V.int (((r.length + 1 : Nat) : Int) % 2) = V.int 0) = false from decide_eq_false (fun q => by have q2 := V.int.inj q; omega)]
    have h3 : r.length % 2 = 0 := by omega
    refine iteF ⟨_, rfl, p, _, rfl, SqL.of L2, fun q1 n1 => ⟨_, rfl, p, _, rfl, SqL.of (Same.new n1 _ _ L2), fun q2 n2 => ⟨_, _, rfl, ?_⟩⟩⟩
    have k1 : (upd (upd H2 q1 (.lst (alt (((f :: r).map wV).drop 1)))) q2 (.lst (alt (((f :: r).map wV).drop 2)))) q1 = some (.lst ((alt r).map wV)) := by
      have e := Same.new (o := .lst (alt (((f :: r).map wV).drop 2))) n2 q1 _ upd_same
      rw [e, ← List.map_drop, alt_map]
      rfl
    have k2 : (upd (upd H2 q1 (.lst (alt (((f :: r).map wV).drop 1)))) q2 (.lst (alt (((f :: r).map wV).drop 2)))) q2 = some (.lst ((alt (r.drop 1)).map wV)) := by
      rw [upd_same, ← List.map_drop, alt_map]
      rfl
    have S3 : Same H (upd (upd H2 q1 (.lst (alt (((f :: r).map wV).drop 1)))) q2 (.lst (alt (((f :: r).map wV).drop 2)))) := S2.trans ((Same.new n1).put (Same.free (Same.new n1) n2))
    dsimp only
    revert k1 k2 S3
    show _ → _ → _ → tSeq _ _ _ _ (upd (upd H2 q1 (.lst (alt (((f :: r).map wV).drop 1)))) q2 (.lst (alt (((f :: r).map wV).drop 2))))
    generalize upd (upd H2 q1 (.lst (alt (((f :: r).map wV).drop 1)))) q2 (.lst (alt (((f :: r).map wV).drop 2))) = H3
    intro k1 k2 S3
    have wa : ∀ w ∈ alt r, Wd w := fun w h => wr w (mem_alt h)
    have wb : ∀ w ∈ alt (r.drop 1), Wd w := fun w h => wr w (List.mem_of_mem_drop (mem_alt h))
    have la : (alt r).length ≤ 900 := by rw [alt_length]; omega
    have lab : (alt r).length = (alt (r.drop 1)).length := by
      rw [alt_length, alt_length, List.length_drop]
      omega
    have ps := parse_some (f := f) (r := r) ⟨hf, h3⟩
    rw [ShB_ents lab] at ps
    generalize hle : decide (f = [108]) = leaf at *
    generalize alt r = ks at *
    generalize alt (r.drop 1) = ts at *
    have no : (decide ((if leaf = true then 1 else 2) ≤ ks.length ∧ ks.length ≤ 4) && (ks.all keyB && (ascB ks && (if leaf = true then ts.all valB else ts.all fun w => (telN w).isSome)))) = false → ∀ H4, Same H3 H4 → Q .non H4 := fun h H4 S4 => k _ _ (S3.trans S4) (by rw [ps, h]; rfl)
    show tIf _ _ _ _ _ _
    refine tgoE (fun v H' => ∃ q, v = .ref q ∧ Same H3 H' ∧ H' q = some (.lst (toldL leaf ts))) (fun N kN => ?_) ?_
    · refine ⟨_, rfl, rfl, _, rfl, ?_⟩
      rw [kindS_leaf]
      cases leaf with
      | true => exact iteT ⟨_, rfl, kN _ _ ⟨q2, rfl, Same.refl _, k2⟩⟩
      | false =>
        refine iteF ⟨_, rfl, q2, rfl, ⟨_, SqL.of k2⟩, fun D hD => lc_map (walk_list (xs := ts.map wV)) (fun i => optV (telN (ts.getD i []))) hD (by rw [List.length_map]; omega) (fun H4 hS4 => SqL.of (hS4 _ _ k2)) (fun i x H4 H5 N hi hS hy h1 => ?_) mono_name (fun H4 S4 e4 => kN _ _ ⟨D, rfl, S4, ?_⟩)⟩
        · obtain ⟨rfl, hv⟩ := hy
          rw [List.length_map] at hi
          rw [List.getElem?_map, List.getElem?_eq_getElem hi] at hv
          have hv2 := Option.some.inj hv
          subst hv2
          have hg : ts.getD i [] = ts[i] := by rw [List.getD, List.getElem?_eq_getElem hi]; rfl
          rw [hg] at h1
          exact ⟨rfl, _, rfl, ts[i], rfl, wb _ (List.getElem_mem hi), fun H6 S6 => h1 H6 S6⟩
        · rw [e4, List.length_map, range_getD [] (fun w => optV (telN w)) ts]
          rfl
    rintro v H4 ⟨q4, rfl, S4, k4⟩
    refine ⟨_, rfl, rfl, _, rfl, ?_⟩
    rw [kindS_leaf]
    refine ite_tC ?_
    have il : ((if leaf = true then 1 else 2 : Nat) : Int) = (if leaf = true then (1 : Int) else 2) := by cases leaf <;> rfl
    have g1 := S4 _ _ k1
    refine ⟨_, rfl, q1, _, rfl, .inl (SqL.of g1), _, _, rfl, rfl, _, rfl, ?_⟩
    rw [List.length_map]
    by_cases c1 : (if leaf = true then (1 : Int) else 2) ≤ (ks.length : Int)
    rotate_left
    · rw [decide_eq_false c1]
      exact iteF ⟨_, rfl, iteT (iteT (no (by rw [decide_eq_false (fun q => by omega), Bool.false_and]) _ S4))⟩
    rw [decide_eq_true c1]
    refine iteT ⟨_, _, rfl, rfl, _, rfl, ?_⟩
    by_cases c2 : (ks.length : Int) ≤ 4
    rotate_left
    · rw [decide_eq_false c2]
      exact iteT (iteT (no (by rw [decide_eq_false (fun q => by omega), Bool.false_and]) _ S4))
    rw [decide_eq_true c2]
    have cc : (if leaf = true then 1 else 2) ≤ ks.length ∧ ks.length ≤ 4 := by omega
    rw [decide_eq_true cc, Bool.true_and] at no ps
    refine iteF ⟨_, rfl, q1, rfl, ⟨_, SqL.of g1⟩, fun D hD => lc_map (walk_list (xs := ks.map wV)) (fun i => V.bl (keyB (ks.getD i []))) hD (by rw [List.length_map]; omega) (fun H5 hS5 => SqL.of (hS5 _ _ g1)) (fun i x H5 H6 N hi hS hy h1 => ?_) mono_name (fun H5 S5 e5 => ?_)⟩
    · obtain ⟨rfl, hv⟩ := hy
      rw [List.length_map] at hi
      rw [List.getElem?_map, List.getElem?_eq_getElem hi] at hv
      have hv2 := Option.some.inj hv
      subst hv2
      have hg : ks.getD i [] = ks[i] := by rw [List.getD, List.getElem?_eq_getElem hi]; rfl
      rw [hg] at h1
      exact ⟨rfl, _, rfl, ks[i], rfl, wa _ (List.getElem_mem hi), fun H6 S6 => h1 H6 S6⟩
    rw [List.length_map, range_getD [] (fun w => V.bl (keyB w)) ks] at e5
    have e5' : H5 D = some (.lst ((ks.map keyB).map V.bl)) := by rw [e5, List.map_map]; rfl
    refine ⟨D, _, rfl, SqL.of e5', _, rfl, ?_⟩
    rw [List.all_map]
    show (if (!ks.all keyB) = true then _ else _)
    have S5' := S4.trans S5
    cases hk : ks.all keyB with
    | false => exact iteT (no (by rw [hk, Bool.false_and]) _ S5')
    | true =>
    rw [hk, Bool.true_and] at no ps
    refine iteF ?_
    have g5 := S5 _ _ g1
    refine ⟨_, rfl, _, rfl, q1, ks.map S, rfl, SqL.of (by rw [map_wV]; exact g5), by rw [List.length_map]; omega, fun sp nsp => ⟨sp, _, rfl, upd_same, by rw [List.length_map]; omega, fun ys yp nd mem so nyp => ?_⟩⟩
    have S6 : Same H5 (upd (upd H5 sp (TxO w sp (ks.map S))) yp (.lst (ys.map V.str))) := (Same.new nsp).put (Same.free (Same.new nsp) nyp)
    obtain ⟨zs, rfl⟩ : ∃ zs : List (List Nat), ys = zs.map S := ⟨_, str_map ys⟩
    have nd2 : zs.Nodup := List.Pairwise.of_map S (fun a b h e => h (by rw [e])) nd
    have mem2 : ∀ x, x ∈ zs ↔ x ∈ ks := fun x => by
      have m := mem (S x)
      constructor
      · intro h
        obtain ⟨y, hy, e⟩ := List.mem_map.mp (m.mp (List.mem_map_of_mem h))
        rw [← S_inj e]; exact hy
      · intro h
        obtain ⟨y, hy, e⟩ := List.mem_map.mp (m.mpr (List.mem_map_of_mem h))
        rw [← S_inj e]; exact hy
    refine ⟨_, _, dp_strs (SqL.of (S6 _ _ g5)), dp_strs (ws := zs) (SqL.of (by rw [← map_wV]; exact upd_same)), shaped_strs wa, shaped_strs (fun w h => wa w ((mem2 w).mp h)), _, rfl, ?_⟩
    rw [show PyData.eqv (.list (ks.map fun w => PyData.str (S w))) (.list (zs.map fun w => PyData.str (S w))) = ascB ks from by rw [PyData.eqv, eqvAll_strs, sort_dec nd2 mem2 so]]
    revert S6
    generalize upd (upd H5 sp (TxO w sp (ks.map S))) yp (.lst ((zs.map S).map V.str)) = H6
    intro S6
    have S6' := S5'.trans S6
    cases ha : ascB ks with
    | false => exact iteT (iteT (no (by rw [ha, Bool.false_and]) _ S6'))
    | true =>
    rw [ha, Bool.true_and] at no ps
    have g4 := S6 _ _ (S5 _ _ k4)
    refine iteF ⟨_, rfl, q4, _, rfl, .inl (SqL.of g4), rfl, toldL_flat leaf ts, _, rfl, ?_⟩
    show (if inV .non (toldL leaf ts) = true then _ else _)
    rw [toldL_no]
    have g6 := S6 _ _ g5
    have fin : ∀ H7, Same H6 H7 → (if leaf = true then ts.all valB else ts.all fun w => (telN w).isSome) = true → tRet (tTup (tCons (tVar 2) (tCons (tListZip K (tCons (tVar 3) (tCons (tVar 4) tNil))) tNil))) { nx := fun x H' => Q V.non H', rt := Q } [some (.str (S (J10 (f :: r)))), some (.ref p), some (.str (kindS leaf)), some (.ref q1), some (.ref q4), none, none, none] H7 := by
      intro H7 S7 hok
      rw [hok, if_pos rfl] at ps
      refine ⟨_, rfl, _, rfl, _, rfl, q1, q4, _, _, rfl, SqL.of (S7 _ _ g6), SqL.of (S7 _ _ g4), by rw [List.length_map, toldL_len, lab], fun H8 p8 ts8 b1 b2 b3 b4 b5 b6 b7 b8 => ⟨by show 2 ≤ sizeLine; decide, fun a na => ?_⟩⟩
      have S8 : Same H (upd H8 a (.tup [V.str (kindS leaf), V.ref p8])) := fun b o e => Same.new na _ _ (b1 _ _ (S7 _ _ (S6' _ _ (S3 _ _ e))))
      refine k _ _ S8 ?_
      rw [ps]
      refine ⟨a, p8, ts8, rfl, upd_same, Same.new na _ _ b6, ?_⟩
      unfold toldL at b7
      cases leaf with
      | true =>
        rw [if_pos rfl, zip_wV] at b7
        rw [ents_leaf]
        exact paired_map (fun t q e => ⟨_, Same.new na _ _ e, rfl⟩) b7
      | false =>
        rw [if_neg Bool.false_ne_true, show (ks.map wV).zip (ts.map fun w => optV (telN w)) = (ks.zip ts).map (fun q => (wV q.1, optV (telN q.2))) from by rw [List.zip_map]; rfl] at b7
        rw [ents_fork]
        exact paired_map (fun t q e => ⟨_, Same.new na _ _ e, tl_num _ _⟩) b7
    cases leaf with
    | false =>
      rw [if_neg Bool.false_ne_true]
      cases ho : (ts.all fun w => (telN w).isSome) with
      | false => exact iteT (no (by rw [if_neg Bool.false_ne_true]; exact ho) _ S6')
      | true =>
        refine iteF ⟨_, rfl, rfl, _, rfl, ?_⟩
        rw [kindS_leaf]
        exact iteF (iteF (fin _ (Same.refl _) (by rw [if_neg Bool.false_ne_true]; exact ho)))
    | true =>
      rw [if_pos rfl]
      refine iteF ⟨_, rfl, rfl, _, rfl, ?_⟩
      rw [kindS_leaf]
      have g4' : H6 q4 = some (.lst (ts.map wV)) := g4
      refine iteT ⟨_, rfl, q4, rfl, ⟨_, SqL.of g4'⟩, fun D2 hD2 => lc_map (walk_list (xs := ts.map wV)) (fun i => V.bl (valB (ts.getD i []))) hD2 (by rw [List.length_map]; omega) (fun H7 hS7 => SqL.of (hS7 _ _ g4')) (fun i x H7 H8 N hi hS hy h1 => ?_) mono_name (fun H7 S7 e7 => ?_)⟩
      · obtain ⟨rfl, hv⟩ := hy
        rw [List.length_map] at hi
        rw [List.getElem?_map, List.getElem?_eq_getElem hi] at hv
        have hv2 := Option.some.inj hv
        subst hv2
        have hg : ts.getD i [] = ts[i] := by rw [List.getD, List.getElem?_eq_getElem hi]; rfl
        rw [hg] at h1
        exact ⟨rfl, _, rfl, ts[i], rfl, wb _ (List.getElem_mem hi), fun H6 S6 => h1 H6 S6⟩
      rw [List.length_map, range_getD [] (fun w => V.bl (valB w)) ts] at e7
      have e7' : H7 D2 = some (.lst ((ts.map valB).map V.bl)) := by rw [e7, List.map_map]; rfl
      refine ⟨D2, _, rfl, SqL.of e7', _, rfl, ?_⟩
      rw [List.all_map]
      show (if (!ts.all valB) = true then _ else _)
      cases hv : ts.all valB with
      | false => exact iteT (no (by rw [if_pos rfl]; exact hv) _ (S6'.trans S7))
      | true => exact iteF (fin _ S7 (by rw [if_pos rfl]; exact hv))
theorem ok_law_map_key_drawn {f : Addr} {fd : FuncData} (T : Txt K w mg) (F : FD K "_law_map_key_drawn" s_law_map_key_drawn f fd) (hm : mg "_law_map_key_drawn" = some (.ref f)) (c_law_take : Cg P w K mg base 1 "_law_take" ["pot", "upto"] sp_law_take) (c_law_of : Cg P w K mg base 2 "_law_of" ["pot", "some"] sp_law_of) : Cg P w K mg base 3 "_law_map_key_drawn" ["pot"] sp_law_map_key_drawn := by
  refine cg_of F hm sc_law_map_key_drawn (fun vs H Q E h => ?_) (fun _ _ _ _ _ _ us hl => match us, hl with | [_], _ => rfl) (fun _ _ _ _ _ _ us hl => match us, hl with | [_], _ => rfl) (fun cdv A outer s H vs Q E hG hr h => ?_)
  · obtain ⟨a, m, rfl, _⟩ := h
    rfl
  · obtain ⟨a, m, rfl, hp, k⟩ := h
    refine ⟨_, (pss_cons (ps_set (i := 1) sc_law_map_key_drawn.nd rfl (Or.inl rfl) (pe_g c_law_take hG hr (by decide) rfl (pa_cons (pv 0) (pa_cons pe_int pa_nil))))
      (pss_cons (ps_if (pt_cmpR op_eq (pv 1) pe_int (nomark _)) (pss_one (ps_ret (pe_g c_law_of hG hr (by decide) rfl (pa_cons (pv 0) (pa_cons (pe_lst (pa_cons pe_str (pa_cons pe_str (pa_cons pe_str (pa_cons pe_str (pa_cons pe_str (pa_cons pe_str (pa_cons pe_str (pa_cons pe_str pa_nil))))))))) pa_nil))))) pss_nil)
      (pss_one (ps_ret (pe_op op_add_str (pe_op op_add_str (pe_g c_law_of hG hr (by decide) rfl (pa_cons (pv 0) (pa_cons pe_str pa_nil))) (pe_callTy call_str_int (by rfl) T.f_str (by decide +kernel) (pa_cons (pe_g c_law_take hG hr (by decide) rfl (pa_cons (pv 0) (pa_cons pe_int pa_nil))) pa_nil))) (pe_op op_mulS pe_str (pe_op op_mul pe_int (pe_callTy call_int1 (by rfl) T.f_int (by decide +kernel) (pa_cons (pe_cmpR op_eq (pv 1) pe_int (nomark _)) pa_nil))))))))), ?_⟩
    refine ⟨_, rfl, a, 8, m + 2, rfl, by decide, by decide, hp, fun d H2 B2 P2 d0 d1 => ?_⟩
    refine ⟨_, rfl, rfl, _, rfl, ?_⟩
    by_cases e : d = 0
    · rw [show decide (V.int d = V.int 0) = true from decide_eq_true (congrArg V.int e)]
      refine iteT ⟨_, rfl, by show 8 ≤ sizeLine; decide, fun D nD => ⟨a, V.ref D, m + 1, rfl, P2.new nD, .inl ⟨D, _, rfl, P2.ne nD, upd_same, by show 1 ≤ 8; decide, by show 8 ≤ 1000; decide, fun x H3 hx B3 P3 => ?_⟩⟩⟩
      obtain ⟨w, rfl, w1, w2⟩ := keys8 x hx
      exact k w H3 w1 w2 (B2.trans ((But.new nD).trans B3)) (P3.mono (by omega))
    rw [show decide (V.int d = V.int 0) = false from decide_eq_false (fun q => e (V.int.inj q))]
    refine iteF ⟨_, rfl, a, _, m + 1, rfl, P2, .inr ⟨[97, 98, 99, 100, 107, 122], by rw [e_abc], by decide, by decide, fun c H3 hc B3 P3 => ?_⟩⟩
    refine ⟨_, rfl, a, 9, m, rfl, by decide, by decide, P3, fun e H4 B4 P4 e0 e1 => ⟨e, rfl, small_log e0 (by omega), _, _, rfl, rfl, ?_, _, rfl, rfl, .inr ⟨_, rfl, _, _, rfl, rfl, mulOkL (by decide) (by decide), _, _, rfl, rfl, ?_, ?_, by decide, _, _, rfl, rfl, ?_, ?_⟩⟩⟩
    · have hl := digW_len e0 (show e < 10 ^ 12 by omega)
      rw [S_num, S_len, S_len, sizeLine_eq]
      show 1 + _ ≤ _
      omega
    · cases decide (V.int d = V.int 1) <;> decide
    · cases decide (V.int d = V.int 1) <;> decide
    · have hl := digW_len e0 (show e < 10 ^ 12 by omega)
      rw [S_num, e_bang, S_app, S_len, S_len, List.length_append, sizeLine_eq]
      have : (if decide (V.int d = V.int 1) = true then List.replicate 11 33 else ([] : List Nat)).length ≤ 11 := by cases decide (V.int d = V.int 1) <;> decide
      show 1 + _ + _ ≤ _
      omega
    · obtain ⟨w1, w2⟩ := drawn_key (b := decide (V.int d = V.int 1)) hc e0 e1
      rw [S_num, e_bang, S_app, S_app]
      exact k _ H4 w1 w2 (B2.trans (B3.trans B4)) P4
theorem ok_law_map_value_drawn {f : Addr} {fd : FuncData} (T : Txt K w mg) (F : FD K "_law_map_value_drawn" s_law_map_value_drawn f fd) (hm : mg "_law_map_value_drawn" = some (.ref f)) (c_law_of : Cg P w K mg base 2 "_law_of" ["pot", "some"] sp_law_of) (c_law_take : Cg P w K mg base 1 "_law_take" ["pot", "upto"] sp_law_take) : Cg P w K mg base 3 "_law_map_value_drawn" ["pot"] sp_law_map_value_drawn := by
  refine cg_of F hm sc_law_map_value_drawn (fun vs H Q E h => ?_) (fun _ _ _ _ _ _ us hl => match us, hl with | [_], _ => rfl) (fun _ _ _ _ _ _ us hl => match us, hl with | [_], _ => rfl) (fun cdv A outer s H vs Q E hG hr h => ?_)
  · obtain ⟨a, m, rfl, _⟩ := h
    rfl
  · obtain ⟨a, m, rfl, hp, k⟩ := h
    refine ⟨_, (pss_cons (ps_set (i := 1) sc_law_map_value_drawn.nd rfl (Or.inl rfl) (pe_lst (pa_cons pe_str (pa_cons pe_str (pa_cons pe_str (pa_cons pe_str (pa_cons pe_str (pa_cons pe_str (pa_cons pe_str (pa_cons pe_str pa_nil))))))))))
      (pss_one (ps_ret (pe_ifExp (pt_cmpR op_eq (pe_g c_law_take hG hr (by decide) rfl (pa_cons (pv 0) (pa_cons pe_int pa_nil))) pe_int (nomark _)) (pe_g c_law_of hG hr (by decide) rfl (pa_cons (pv 0) (pa_cons (pv 1) pa_nil))) (pe_callTy call_str_int (by rfl) T.f_str (by decide +kernel) (pa_cons (pe_g c_law_take hG hr (by decide) rfl (pa_cons (pv 0) (pa_cons pe_int pa_nil))) pa_nil)))))), ?_⟩
    refine ⟨by show 8 ≤ sizeLine; decide, fun D nD => ⟨_, rfl, a, 2, m + 1, rfl, by decide, by decide, hp.new nD, fun d H2 B2 P2 d0 d1 => ⟨rfl, _, rfl, ?_⟩⟩⟩
    have B2' := (But.new nD).trans B2
    by_cases e : d = 0
    · rw [show decide (V.int d = V.int 0) = true from decide_eq_true (congrArg V.int e)]
      refine iteT ⟨_, rfl, _, rfl, a, V.ref D, m, rfl, P2, .inl ⟨D, _, rfl, hp.ne nD, B2 _ _ (hp.ne nD) upd_same, by show 1 ≤ 8; decide, by show 8 ≤ 1000; decide, fun x H3 hx B3 P3 => ?_⟩⟩
      obtain ⟨w, rfl, w1, w2⟩ := vals8 x hx
      exact k w H3 w1 w2 (B2'.trans B3) P3
    rw [show decide (V.int d = V.int 0) = false from decide_eq_false (fun q => e (V.int.inj q))]
    refine iteF ⟨_, rfl, a, 99, m, rfl, by decide, by decide, P2, fun e H3 B3 P3 e0 e1 => ⟨e, rfl, small_log e0 (by omega), ?_⟩⟩
    rw [S_num]
    exact k _ H3 (digW_wd e0 (by omega)) (digW_val e0 (by omega)) (B2'.trans B3) P3
theorem ok_law_sheet {f : Addr} {fd : FuncData} (T : Txt K w mg) (F : FD K "_law_sheet" s_law_sheet f fd) (hm : mg "_law_sheet" = some (.ref f)) (c_law_of : Cg P w K mg base 2 "_law_of" ["pot", "some"] sp_law_of) (c_law_take : Cg P w K mg base 1 "_law_take" ["pot", "upto"] sp_law_take) (c_law_map_key_drawn : Cg P w K mg base 3 "_law_map_key_drawn" ["pot"] sp_law_map_key_drawn) (c_law_map_value_drawn : Cg P w K mg base 3 "_law_map_value_drawn" ["pot"] sp_law_map_value_drawn) : Cg P w K mg base 4 "_law_sheet" ["pot"] sp_law_sheet := by
  refine cg_of F hm sc_law_sheet (fun vs H Q E h => ?_) (fun _ _ _ _ _ _ us hl => match us, hl with | [_], _ => rfl) (fun _ _ _ _ _ _ us hl => match us, hl with | [_], _ => rfl) (fun cdv A outer s H vs Q E hG hr h => ?_)
  · obtain ⟨a, m, rfl, _⟩ := h
    rfl
  · obtain ⟨a, m, rfl, hp, k⟩ := h
    refine ⟨_, (pss_cons (ps_set (i := 1) sc_law_sheet.nd rfl (Or.inl rfl) (pe_g c_law_of hG hr (by decide) rfl (pa_cons (pv 0) (pa_cons (pe_lst (pa_cons pe_str (pa_cons pe_str pa_nil))) pa_nil))))
      (pss_cons (ps_set (i := 2) sc_law_sheet.nd rfl (Or.inl rfl) (pe_slice sl_list (pe_callB (show CallR _ _ (rSortTx w) from call_sortTx rfl) (by rfl) T.f_sorted (by decide +kernel) (pa_cons (pe_callTy (show CallR _ _ (rSetTx K w) from call_setTx rfl) (by rfl) T.f_set (by decide +kernel) (pa_cons (pe_lc (own := [("lap", 7)]) rfl sc_law_sheet.nd (pi_range1 rfl T.f_range (pa_cons pe_int pa_nil)) (blkOk_by (N := ["pot", "kind", "keys", "found", "key", "way", "child", "lap"]) (sc := defScope s_law_sheet) (by decide +kernel)) (fun _ _ _ _ _ => (pg_name (i := 7) sc_law_sheet.nd rfl (Or.inl rfl))) (fun _ _ _ _ _ => pts_nil) (fun _ _ _ _ _ => (pe_g c_law_map_key_drawn hG hr (by decide) rfl (pa_cons (pv 0) pa_nil)))) pa_nil)) pa_nil)) po_none (po_some (pe_op op_add pe_int (pe_g c_law_take hG hr (by decide) rfl (pa_cons (pv 0) (pa_cons pe_int pa_nil)))))))
      (pss_cons (ps_if (PW.pt (pw_and (pt_cmpR op_eq (pv 1) pe_str (nomark _)) (pw_and1 (pt_cmpR op_lt (pe_callB call_len_seq (by rfl) T.f_len PySem.boot_len (pa_cons (pv 2) pa_nil)) pe_int (nomark _))))) (pss_one (ps_set (i := 2) sc_law_sheet.nd rfl (Or.inl rfl) (pe_lst (pa_cons pe_str (pa_cons pe_str pa_nil))))) pss_nil)
      (pss_cons (ps_set (i := 3) sc_law_sheet.nd rfl (Or.inl rfl) (pe_lst pa_nil))
      (pss_cons (ps_for PassesOwn.never rfl (pi_list (pv 2)) (pg_name (i := 4) sc_law_sheet.nd rfl (Or.inl rfl))
        (pss_cons (ps_set (i := 5) sc_law_sheet.nd rfl (Or.inl rfl) (pe_g c_law_take hG hr (by decide) rfl (pa_cons (pv 0) (pa_cons pe_int pa_nil))))
      (pss_cons (ps_set (i := 6) sc_law_sheet.nd rfl (Or.inl rfl) (pe_ifExp (pt_cmpR op_eq (pv 5) pe_int (nomark _)) (pe_tup (pa_cons pe_str (pa_cons (pe_g c_law_take hG hr (by decide) rfl (pa_cons (pv 0) (pa_cons pe_int pa_nil))) pa_nil))) (pe_g c_law_of hG hr (by decide) rfl (pa_cons (pv 0) (pa_cons (pe_lst (pa_cons pe_int (pa_cons pe_int (pa_cons pe_int (pa_cons pe_int (pa_cons (pe_op op_powW pe_int pe_int) pa_nil)))))) pa_nil)))))
      (pss_one (ps_expr (pe_bm PySem.F.plainAttrs_list PySem.F.slot_list_append PySem.F.type_list_append mt_append (pv 3) (pa_cons (pe_tup (pa_cons (pv 4) (pa_cons (pe_ifExp (pt_cmpR op_eq (pv 1) pe_str (nomark _)) (pe_g c_law_map_value_drawn hG hr (by decide) rfl (pa_cons (pv 0) pa_nil)) (pv 6)) pa_nil))) pa_nil)))))))
      (pss_one (ps_ret (pe_tup (pa_cons (pv 1) (pa_cons (pe_callTy call_tuple_of (by rfl) T.f_tuple (by decide +kernel) (pa_cons (pv 3) pa_nil)) pa_nil)))))))))), ?_⟩
    refine ⟨_, rfl, by show 2 ≤ sizeLine; decide, fun D nD => ⟨a, V.ref D, m + 29, rfl, (hp.new nD).mono (by omega), .inl ⟨D, _, rfl, hp.ne nD, upd_same, by show 1 ≤ 2; decide, by show 2 ≤ 1000; decide, fun x H1 hx B1 P1 => ?_⟩⟩⟩
    obtain ⟨leaf, rfl⟩ := kinds2 x hx
    have B1' := (But.new nD).trans B1
    refine ⟨4, rfl, by decide, by decide, fun D1 nD1 => lc_pot walk_range a (m + 17) 3 (fun y => ∃ w, y = V.str (S w) ∧ Wd w ∧ keyB w = true) nD1 (P1.mono (by show m + 17 + 3 * 4 ≤ m + 29; omega)) (by decide) (fun _ _ => trivial) ?_ mono_name ?_⟩
    · rintro i y H2 H3 N kk hi hB hP ⟨rfl, rfl⟩ h1
      exact ⟨rfl, _, rfl, a, kk, rfl, hP, fun w H4 w1 w2 B4 P4 => h1 _ _ B4 ⟨w, rfl, w1, w2⟩ P4⟩
    intro H2 ys B2 P2 hl hy hL
    obtain ⟨kw, rfl, hkw⟩ := ex_words hy
    rw [List.length_map, List.length_map] at hl
    have hl4 : kw.length = 4 := hl
    refine ⟨D1, kw.map S, rfl, SqL.of hL, by rw [List.length_map]; omega, fun sp nsp => ⟨sp, _, rfl, upd_same, by rw [List.length_map]; omega, fun ys yp nd mem so nyp => ?_⟩⟩
    have S3 : Same H2 (upd (upd H2 sp (TxO w sp (kw.map S))) yp (.lst (ys.map V.str))) := (Same.new nsp).put (Same.free (Same.new nsp) nyp)
    have L3 : (upd (upd H2 sp (TxO w sp (kw.map S))) yp (.lst (ys.map V.str))) yp = some (.lst (ys.map V.str)) := upd_same
    have hya : yp ≠ a := (P2.new nsp).ne nyp
    revert S3 L3
    generalize upd (upd H2 sp (TxO w sp (kw.map S))) yp (.lst (ys.map V.str)) = H3
    intro S3 L3
    obtain ⟨zs, rfl⟩ : ∃ zs : List (List Nat), ys = zs.map S := ⟨_, str_map ys⟩
    have nd2 : zs.Nodup := List.Pairwise.of_map S (fun a b h e => h (by rw [e])) nd
    have mem2 : ∀ x, x ∈ zs ↔ x ∈ kw := fun x => by
      have m := mem (S x)
      constructor
      · intro h
        obtain ⟨y, hy, e⟩ := List.mem_map.mp (m.mp (List.mem_map_of_mem h))
        rw [← S_inj e]; exact hy
      · intro h
        obtain ⟨y, hy, e⟩ := List.mem_map.mp (m.mpr (List.mem_map_of_mem h))
        rw [← S_inj e]; exact hy
    have hasc := sorted_asc so nd2
    have hzk : ∀ w ∈ zs, Wd w ∧ keyB w = true := fun w h => hkw w ((mem2 w).mp h)
    have hz0 : zs ≠ [] := fun e => by
      cases kw with
      | nil => exact absurd hl4 (by decide)
      | cons c r => have := (mem2 c).mpr List.mem_cons_self; rw [e] at this; cases this
    rw [map_wV] at L3
    have P3 := P2.same S3
    refine ⟨_, rfl, a, 4, m + 16, rfl, by decide, by decide, P3, fun d H4 B4 P4 d0 d1 => ⟨_, _, rfl, rfl, 1 + d, rfl, yp, _, rfl, SqL.of (B4 _ _ hya L3), fun q nq => ?_⟩⟩
    have hd1 : HT.sIx zs.length zs.length (some (1 + d)) = min (1 + d).toNat zs.length := by
      show (if 1 + d < 0 then _ else _) = _
      rw [if_neg (by omega)]
    rw [cut_words, HT.sIx_none, List.drop_zero, Nat.sub_zero, hd1]
    have hks : ∀ w ∈ zs.take (min (1 + d).toNat zs.length), Wd w ∧ keyB w = true := fun w h => hzk w (List.mem_of_mem_take h)
    have hkl : 1 ≤ (zs.take (min (1 + d).toNat zs.length)).length ∧ (zs.take (min (1 + d).toNat zs.length)).length ≤ 4 := by
      have : 1 ≤ zs.length := by cases zs with | nil => exact absurd rfl hz0 | cons c r => simp
      rw [List.length_take]
      omega
    have hka := asc_take hasc (min (1 + d).toNat zs.length)
    generalize zs.take (min (1 + d).toNat zs.length) = ks at *
    have B5 : But a H (upd H4 q (.lst (ks.map wV))) := (((B1'.trans B2).trans (fun b o _ e => S3 b o e)).trans B4).trans (But.new nq)
    have P5 := P4.new (o := .lst (ks.map wV)) nq
    have L5 : (upd H4 q (.lst (ks.map wV))) q = some (.lst (ks.map wV)) := upd_same
    have hqa : q ≠ a := P4.ne nq
    revert B5 P5 L5
    show _ → _ → _ → gName 2 (V.ref q) _ (upd H4 q (.lst (ks.map wV))) _
    generalize upd H4 q (.lst (ks.map wV)) = H5
    intro B5 P5 L5
    dsimp only [gName]
    show tIfS _ _ _ _ _ _
    refine tgoS (fun σ' H' => ∃ (q2 : Addr) (k2 : List (List Nat)), σ' = [some (.ref a), some (.str (kindS leaf)), some (.ref q2), none, none, none, none, none] ∧ But a H H' ∧ PotAt H' a (m + 16) ∧ q2 ≠ a ∧ H' q2 = some (.lst (k2.map wV)) ∧ (∀ w ∈ k2, Wd w ∧ keyB w = true) ∧ ((if leaf = true then 1 else 2) ≤ k2.length ∧ k2.length ≤ 4) ∧ ascB k2 = true) (fun nx kN => ?_) ?_
    · refine ⟨_, rfl, rfl, _, rfl, ?_⟩
      rw [kindS_fork]
      cases leaf with
      | true => exact iteF (iteF (kN _ _ ⟨q, ks, rfl, B5, P5, hqa, L5, hks, hkl, hka⟩))
      | false =>
        refine iteT ⟨_, rfl, q, _, rfl, .inl (SqL.of L5), _, _, rfl, rfl, _, rfl, ?_⟩
        rw [List.length_map]
        by_cases h2 : (ks.length : Int) < 2
        · rw [decide_eq_true h2]
          refine iteT ⟨by show 2 ≤ sizeLine; decide, fun q2 n2 => kN _ _ ⟨q2, [[97], [98]], rfl, B5.trans (But.new n2), P5.new n2, P5.ne n2, by rw [upd_same, e_a, e_b]; rfl, ?_, by decide, by decide +kernel⟩⟩
          have ok := ab_ok
          simp only [Bool.and_eq_true] at ok
          intro w hw
          rcases List.mem_cons.mp hw with z | z
          · rw [z]; exact ⟨wd_of ok.1, ok.2.1⟩
          · rw [List.mem_singleton.mp z]; exact ⟨wd_of ok.2.2.1, ok.2.2.2⟩
        · rw [decide_eq_false h2]
          exact iteF (kN _ _ ⟨q, ks, rfl, B5, P5, hqa, L5, hks, ⟨by show 2 ≤ _; omega, hkl.2⟩, hka⟩)
    rintro σ' H6 ⟨q2, k2, rfl, B6, P6, n6, L6, w6, c6, a6⟩
    refine ⟨by show 0 ≤ sizeLine; decide, fun F nF => ?_⟩
    have hFa : F ≠ a := P6.ne nF
    have L7 : (upd H6 F (.lst [])) q2 = some (.lst (k2.map wV)) := Same.new nF _ _ L6
    refine ⟨_, rfl, q2, rfl, ⟨_, SqL.of L7⟩, for_it (walk_list (xs := k2.map wV)) (fun i σ H' => But a H6 H' ∧ PotAt H' a (m + 4 * (k2.length - i)) ∧ ∃ (fs : List Addr) (es : List (List Nat × Tl)), H' F = some (.lst (fs.map V.ref)) ∧ fs.length = i ∧ Paired (EnAt H') fs es ∧ es.map (·.1) = k2.take i ∧ (∀ e ∈ es, EnOk leaf e) ∧ ∃ x y z, σ = [some (.ref a), some (.str (kindS leaf)), some (.ref q2), some (.ref F), x, y, z, none]) ⟨But.new nF, (P6.new nF).mono (by omega), [], [], upd_same, rfl, .nil, rfl, (fun e h => nomatch h), _, _, _, rfl⟩ (fun i σ H' _ h => SqL.of (h.1 _ _ n6 L6)) (fun i x σ H7 H7' hi hq hy => ?_) fun σ H7 hq => ?_⟩
    · obtain ⟨B7, P7, fs, es, LF7, hfl, hPE, hkeys, hok, y1, y2, y3, rfl⟩ := hq
      obtain ⟨rfl, hv⟩ := hy
      rw [List.length_map] at hi
      rw [List.getElem?_map, List.getElem?_eq_getElem hi] at hv
      have hv2 := Option.some.inj hv
      subst hv2
      obtain ⟨rem, er⟩ : ∃ rem, rem = m + 4 * (k2.length - (i + 1)) := ⟨_, rfl⟩
      have P7' : PotAt H7' a (rem + 3 + 1) := P7.mono (by omega)
      obtain ⟨ww, wk⟩ := w6 _ (List.getElem_mem hi)
      have fin : ∀ (tl : Tl) (v : V) (t : Addr) (Hx : Hp) (c1 c2 : Option V), But a H7' Hx → PotAt Hx a rem → TlAt Hx v tl → Hx t = none → EnOk leaf (k2[i], tl) → rAppend (V.ref F) [V.ref t] (upd Hx t (.tup [wV k2[i], v])) fun _ H8 => But a H6 H8 ∧ PotAt H8 a (m + 4 * (k2.length - (i + 1))) ∧ ∃ (fs : List Addr) (es : List (List Nat × Tl)), H8 F = some (.lst (fs.map V.ref)) ∧ fs.length = i + 1 ∧ Paired (EnAt H8) fs es ∧ es.map (·.1) = k2.take (i + 1) ∧ (∀ e ∈ es, EnOk leaf e) ∧ ∃ x y z, [some (V.ref a), some (V.str (kindS leaf)), some (V.ref q2), some (V.ref F), some (wV k2[i]), c1, c2, none] = [some (V.ref a), some (V.str (kindS leaf)), some (V.ref q2), some (V.ref F), x, y, z, none] := by
        intro tl v t Hx c1 c2 Bx Px hv ht hk
        have LFx : Hx F = some (.lst (fs.map V.ref)) := Bx _ _ hFa LF7
        have LFt := Same.new (o := .tup [wV k2[i], v]) ht _ _ LFx
        refine ⟨F, _, _, rfl, rfl, LFt, by rw [List.length_map, sizeLine_eq]; omega, ?_, ?_, fs ++ [t], es ++ [(k2[i], tl)], ?_, by simp [hfl], ?_, ?_, ?_, _, _, _, rfl⟩
        · exact But.putn ((B7.trans Bx).trans (But.new ht)) nF
        · rw [← er]; exact (Px.new ht).put hFa
        · rw [upd_same, List.map_append]; rfl
        · refine snocP (Paired.mono (fun _ _ e => EnAt.put LFt ((EnAt.but P7 e Bx).same (Same.new ht))) hPE) ?_
          exact EnAt.put LFt ⟨v, upd_same, hv.same (Same.new ht)⟩
        · rw [List.map_append, hkeys, List.take_add_one, List.getElem?_eq_getElem hi]
          rfl
        · intro e he
          rcases List.mem_append.mp he with z | z
          · exact hok e z
          · rw [List.mem_singleton.mp z]; exact hk
      rw [gname_eq]
      refine ⟨_, rfl, a, 3, rem + 3, rfl, by decide, by decide, P7', fun d H8 B8 P8 d0 d1 => ?_⟩
      dsimp only [gName]
      show tIf _ _ _ _ _ _
      refine tgoE (fun v H9 => ∃ t6, TlAt H9 v t6 ∧ But a H8 H9 ∧ PotAt H9 a (rem + 2) ∧ tlB false t6 = true ∧ (∀ l, t6 ≠ .tx l) ∧ ∀ i, (t6 = .pl i → 0 ≤ i ∧ i < 10 ^ 12) ∧ (t6 = .nw i → 0 ≤ i ∧ i < 5)) (fun N kN => ?_) ?_
      · refine ⟨_, rfl, rfl, _, rfl, ?_⟩
        by_cases e : d = 0
        · rw [show decide (V.int d = V.int 0) = true from decide_eq_true (congrArg V.int e)]
          refine iteT ⟨_, rfl, a, 5, rem + 2, rfl, by decide, by decide, P8, fun e H9 B9 P9 e0 e1 => ⟨by show 2 ≤ sizeLine; decide, fun t nt => kN _ _ ⟨.nw e, ⟨t, rfl, upd_same⟩, B9.trans (But.new nt), P9.new nt, decide_eq_true e0, (fun l z => nomatch z), fun i => ⟨(fun z => nomatch z), fun z => ?_⟩⟩⟩⟩
          cases z
          exact ⟨e0, e1⟩
        · rw [show decide (V.int d = V.int 0) = false from decide_eq_false (fun q => e (V.int.inj q))]
          refine iteF ⟨_, rfl, _, _, rfl, rfl, (by unfold CPowW; decide +kernel), by show 5 ≤ sizeLine; decide, fun D9 n9 => ⟨a, V.ref D9, rem + 2, rfl, P8.new n9, .inl ⟨D9, _, rfl, P8.ne n9, upd_same, by show 1 ≤ 5; decide, by show 5 ≤ 1000; decide, fun x H10 hx B10 P10 => ?_⟩⟩⟩
          obtain ⟨z, rfl, z0, z1⟩ := pl5 x hx
          refine kN _ _ ⟨.pl z, rfl, (But.new n9).trans B10, P10, decide_eq_true z0, (fun l q => nomatch q), fun i => ⟨fun q => ?_, (fun q => nomatch q)⟩⟩
          cases q
          exact ⟨z0, z1⟩
      rintro v H9 ⟨t6, g1, g2, g3, g4, g5, g6⟩
      have B9 := B8.trans g2
      have LF9 := B9 _ _ hFa LF7
      refine ⟨_, rfl, .inl ⟨rfl, _, SqL.of LF9⟩, _, rfl, _, rfl, rfl, _, rfl, ?_⟩
      rw [kindS_leaf]
      cases leaf with
      | true =>
        refine iteT ⟨_, rfl, a, rem, rfl, g3, fun w2 H10 w21 w22 B10 P10 => ⟨by show 2 ≤ sizeLine; decide, fun t nt => fin (.tx w2) _ t H10 _ _ (B9.trans B10) P10 rfl nt ⟨⟨ww, fun _ => ⟨w2, rfl, w21⟩, fun z => nomatch z⟩, wk, w22, fun i => ⟨(fun z => nomatch z), fun z => nomatch z⟩⟩⟩⟩
      | false =>
        exact iteF ⟨_, rfl, by show 2 ≤ sizeLine; decide, fun t nt => fin t6 v t H9 _ _ B9 (g3.mono (by omega)) g1 nt ⟨⟨ww, (fun z => nomatch z), fun _ => g5⟩, wk, g4, g6⟩⟩
    · obtain ⟨B7, P7, fs, es, LF7, hfl, hPE, hkeys, hok, y1, y2, y3, rfl⟩ := hq
      rw [List.length_map] at hfl hkeys P7
      rw [List.take_length] at hkeys
      rw [Nat.sub_self, Nat.mul_zero, Nat.add_zero] at P7
      have hel : es.length = k2.length := by rw [← hkeys, List.length_map]
      refine ⟨_, rfl, _, rfl, F, _, rfl, .inl ⟨SqL.of LF7, fun l nl => ⟨by show 2 ≤ sizeLine; decide, fun c nc => ?_⟩⟩⟩
      have S8 : Same H7 (upd (upd H7 l (.tup (fs.map V.ref))) c (.tup [V.str (kindS leaf), V.ref l])) := (Same.new nl).put (Same.free (Same.new nl) nc)
      refine k c ⟨leaf, es⟩ _ ((B6.trans B7).trans fun b o _ e => S8 b o e) (P7.same S8) ⟨l, fs, upd_same, Same.new nc _ _ upd_same, Paired.mono (fun _ _ e => e.same S8) hPE⟩ (fun e he => (hok e he).1) (by show es.length ≤ 4; omega) ?_ fun e he => (hok e he).2.2.2
      unfold ShB
      rw [Bool.and_eq_true]
      refine ⟨decide_eq_true ?_, ranB_of (fun e he => (hok e he).2.1) (by show ascB (es.map (·.1)) = true; rw [hkeys]; exact a6) fun e he => (hok e he).2.2.1⟩
      show (if leaf = true then 1 else 2) ≤ es.length ∧ es.length ≤ 4
      rw [hel]
      exact c6
theorem ok_law_text {f : Addr} {fd : FuncData} (T : Txt K w mg) (F : FD K "_law_text" s_law_text f fd) (hm : mg "_law_text" = some (.ref f)) : Cg P w K mg base 1 "_law_text" ["sheet", "places"] sp_law_text := by
  refine cg_of F hm sc_law_text (fun vs H Q E h => ?_) (fun _ _ _ _ _ _ us hl => match us, hl with | [_, _], _ => rfl) (fun _ _ _ _ _ _ us hl => match us, hl with | [_, _], _ => rfl) (fun cdv A outer s H vs Q E hG hr h => ?_)
  · obtain ⟨a, b, sh, ps, rfl, _⟩ := h
    rfl
  · obtain ⟨a, b, sh, ps, rfl, ha, fm, hn, hok, hb, hpl, hps, hnw, k⟩ := h
    refine ⟨_, (pss_cons (ps_set (i := 2) sc_law_text.nd rfl (Or.inl rfl) (pe_lst (pa_cons (pe_ifExp (pt_cmpR op_eq (pe_ix (show IxR _ (rIxT K) from ix_tup) (pv 0) pe_int (fun _ _ => rfl)) pe_str (nomark _)) pe_str pe_str) pa_nil)))
      (pss_cons (ps_for PassesOwn.never rfl (pi_tup (pe_ix (show IxR _ (rIxT K) from ix_tup) (pv 0) pe_int (fun _ _ => rfl))) (pg_tup rfl (pgs_cons (pg_name (i := 3) sc_law_text.nd rfl (Or.inl rfl)) (pgs_cons (pg_name (i := 4) sc_law_text.nd rfl (Or.inl rfl)) pgs_nil)))
        (pss_cons (ps_set (i := 5) sc_law_text.nd rfl (Or.inl rfl) (pe_ifExp (pt_val (pe_callB call_isi (by rfl) T.f_isinstance (by decide +kernel) (pa_cons (pv 4) (pa_cons (pe_bltn (v := .ty "tuple") rfl T.f_tuple (by decide +kernel) rfl) pa_nil)))) (pe_ix (show IxR _ (rIxT K) from ix_tup) (pv 1) (pe_ix (show IxR _ (rIxT K) from ix_tup) (pv 4) pe_int (fun _ _ => rfl)) (fun _ _ => rfl)) (pv 4)))
      (pss_one (ps_expr (pe_bm PySem.F.plainAttrs_list PySem.F.slot_list_extend PySem.F.type_list_extend mt_extend (pv 2) (pa_cons (pe_lst (pa_cons (pv 3) (pa_cons (pe_ifExp (pt_cmpR op_eq (pe_ix (show IxR _ (rIxT K) from ix_tup) (pv 0) pe_int (fun _ _ => rfl)) pe_str (nomark _)) (pv 4) (pe_callTy call_str_int (by rfl) T.f_str (by decide +kernel) (pa_cons (pv 5) pa_nil))) pa_nil))) pa_nil))))))
      (pss_one (ps_ret (pe_join pe_str (pv 2)))))), ?_⟩
    obtain ⟨eb, ts, h1, h2, h3⟩ := id ha
    have hlen := Paired.length h3
    have L : SqT K H a [.str (kindS sh.leaf), .ref eb] := SqT.of h1
    refine ⟨_, rfl, a, _, 0, _, rfl, rfl, L, rfl, rfl, _, rfl, ?_⟩
    rw [kindS_leaf]
    refine ite_tS ⟨by show 1 ≤ sizeLine; decide, fun W nW => ?_⟩
    have Sw : Same H (upd H W (.lst [wV (if sh.leaf = true then [108] else [102])])) := Same.new nW
    refine ⟨_, rfl, a, _, 1, _, rfl, rfl, SqT.of (Sw _ _ h1), rfl, eb, rfl, ⟨_, SqT.of (Sw _ _ h2)⟩, for_it (walk_tup (xs := ts.map V.ref)) (fun i σ H' => Same H H' ∧ H' W = some (.lst (((if sh.leaf = true then [108] else [102]) :: (sh.es.take i).flatMap fun e => [e.1, tellW ps e.2]).map wV)) ∧ ∃ x y z, σ = [some (.ref a), some (.ref b), some (.ref W), x, y, z]) ⟨Sw, upd_same, _, _, _, rfl⟩ (fun i σ H' _ h => SqT.of (h.1 _ _ h2)) (fun i x σ H3 H3' hi hq hy => ?_) fun σ H3 hq => ?_⟩
    · obtain ⟨s3, eW, y1, y2, y3, rfl⟩ := hq
      obtain ⟨rfl, hv⟩ := hy
      rw [List.length_map] at hi
      have et : ts[i]? = some ts[i] := List.getElem?_eq_getElem hi
      rw [List.getElem?_map, et] at hv
      have hv2 := Option.some.inj hv
      subst hv2
      obtain ⟨e, ee, v, hE, hV⟩ := LiI.paired_get h3 et
      have hem := List.mem_of_getElem? ee
      obtain ⟨we, f1, f2⟩ := fm e hem
      have hE3 := s3 _ _ hE
      have hV3 := hV.same s3
      have hes : i < sh.es.length := by omega
      have wl : (((if sh.leaf = true then [108] else [102]) :: (sh.es.take i).flatMap fun e => [e.1, tellW ps e.2]).map wV).length ≤ 100 := by
        rw [List.length_map, List.length_cons, flat_len _ 2 _ (fun _ => rfl), List.length_take]
        omega
      have L3 : SqT K H3' a [.str (kindS sh.leaf), .ref eb] := SqT.of (s3 _ _ h1)
      have step : ∀ (t : Addr) (H4 : Hp) (x z : V), Same H3' H4 → x = wV (tellW ps e.2) → H4 t = some (.lst [V.str (S e.1), x]) → H4 W = some (.lst (((if sh.leaf = true then [108] else [102]) :: (sh.es.take i).flatMap fun e => [e.1, tellW ps e.2]).map wV)) →
          rExtend (V.ref W) [V.ref t] H4 fun _ H5 => Same H H5 ∧ H5 W = some (.lst (((if sh.leaf = true then [108] else [102]) :: (sh.es.take (i + 1)).flatMap fun e => [e.1, tellW ps e.2]).map wV)) ∧ ∃ x y z', [some (V.ref a), some (V.ref b), some (V.ref W), some (V.str (S e.1)), some v, some z] = [some (V.ref a), some (V.ref b), some (V.ref W), x, y, z'] := by
        intro t H4 x z S4 ex ht hW
        subst ex
        refine ⟨W, t, _, _, rfl, rfl, hW, ht, by rw [sizeLine_eq]; show _ + 2 ≤ _; omega, (s3.trans S4).put nW, ?_, _, _, _, rfl⟩
        rw [upd_same, List.take_add_one, ee, List.flatMap_append, ← List.cons_append, List.map_append]
        rfl
      have tW : tyV K "list" (V.ref W) H3' := .inl ⟨rfl, _, SqL.of eW⟩
      refine ⟨ts[i], _, rfl, SqT.of hE3, rfl, _, _, rfl, _, _, rfl, rfl, ?_⟩
      obtain ⟨kk, tl⟩ := e
      cases tl with
      | tx l =>
        cases (show v = V.str (S l) from hV3)
        have hle : sh.leaf = true := by
          cases h : sh.leaf with
          | true => rfl
          | false => exact absurd rfl (f2 h l)
        refine ⟨_, rfl, _, _, _, _, false, rfl, .ty _, .base (.str _), kit_ty (by decide +kernel), _, rfl, iteF ⟨_, rfl, ?_⟩⟩
        refine ⟨_, rfl, tW, _, rfl, _, rfl, a, _, 0, _, rfl, rfl, L3, rfl, rfl, _, rfl, ?_⟩
        rw [kindS_leaf, hle]
        rw [hle] at step eW
        exact iteT ⟨_, rfl, by show 2 ≤ sizeLine; decide, fun t nt => step t _ _ _ (Same.new nt) rfl upd_same (Same.new nt _ _ eW)⟩
      | no =>
        exact absurd (show False from by
          obtain ⟨q1, q2⟩ := (Bool.and_eq_true _ _).mp hok
          exact run_no q2 hem) id
      | pl i' =>
        cases (show v = V.int i' from hV3)
        obtain ⟨q1, q2⟩ := (hnw _ hem i').1 rfl
        have hle : sh.leaf = false := by
          cases h : sh.leaf with
          | false => rfl
          | true => obtain ⟨l, e1, _⟩ := f1 h; exact nomatch e1
        refine ⟨_, rfl, _, _, _, _, false, rfl, .ty _, .base (.int _), kit_ty (by decide +kernel), _, rfl, iteF ⟨_, rfl, ?_⟩⟩
        refine ⟨_, rfl, tW, _, rfl, _, rfl, a, _, 0, _, rfl, rfl, L3, rfl, rfl, _, rfl, ?_⟩
        rw [kindS_leaf, hle]
        rw [hle] at step eW
        exact iteF ⟨_, rfl, _, rfl, small_log q1 q2, by show 2 ≤ sizeLine; decide, fun t nt => step t _ _ _ (Same.new nt) (S_str _) upd_same (Same.new nt _ _ eW)⟩
      | nw i' =>
        obtain ⟨c, rfl, hc⟩ := hV3
        obtain ⟨q1, q2⟩ := (hnw _ hem i').2 rfl
        have hle : sh.leaf = false := by
          cases h : sh.leaf with
          | false => rfl
          | true => obtain ⟨l, e1, _⟩ := f1 h; exact nomatch e1
        have Lc : SqT K H3' c [.str (Str.ofString "new"), .int i'] := SqT.of hc
        have Lb : SqT K H3' b (ps.map V.int) := SqT.of (s3 _ _ hb)
        have hlt : i'.toNat < ps.length := by omega
        have hg : ps.getD i'.toNat 0 = ps[i'.toNat] := by rw [List.getD, List.getElem?_eq_getElem hlt]; rfl
        obtain ⟨q3, q4⟩ := hps _ (List.getElem_mem hlt)
        have hat : atI (ps.map V.int) i' = some (V.int ps[i'.toNat]) := by
          obtain ⟨n, rfl⟩ : ∃ n : Nat, i' = n := ⟨i'.toNat, by omega⟩
          refine atI_nat ?_
          rw [List.getElem?_map, List.getElem?_eq_getElem (by omega)]
          rfl
        refine ⟨_, rfl, _, _, _, _, true, rfl, .ty _, .base (.tup hc), kit_ty (by decide +kernel), _, rfl, iteT ?_⟩
        refine ⟨_, rfl, _, rfl, c, _, 1, _, rfl, rfl, Lc, rfl, b, _, i', _, rfl, rfl, Lb, hat, ?_⟩
        refine ⟨_, rfl, tW, _, rfl, _, rfl, a, _, 0, _, rfl, rfl, L3, rfl, rfl, _, rfl, ?_⟩
        rw [kindS_leaf, hle]
        rw [hle] at step eW
        refine iteF ⟨_, rfl, _, rfl, small_log q3 q4, by show 2 ≤ sizeLine; decide, fun t nt => step t _ _ _ (Same.new nt) ?_ upd_same (Same.new nt _ _ eW)⟩
        show V.str _ = wV (digW (ps.getD i'.toNat 0))
        rw [hg]
        exact S_str _
    · obtain ⟨s3, eW, y1, y2, y3, rfl⟩ := hq
      rw [List.length_map, List.take_of_length_le (by omega), ← map_wV] at eW
      have hwd := words_wd (sh := sh) (ps := ps) fm hps hnw
      refine ⟨⟨_, rfl⟩, _, rfl, _, W, _, rfl, rfl, .inl (SqL.of eW), ?_, ?_⟩
      · have l1 : (wordsOf sh ps).length ≤ 9 := by
          unfold wordsOf
          rw [List.length_cons, flat_len _ 2 _ (fun _ => rfl)]
          omega
        have l2 := sum_le (k := 14) (l := ((wordsOf sh ps).map S).map (·.length)) (fun x hx => by
          obtain ⟨y, hy, rfl⟩ := List.mem_map.mp hx
          obtain ⟨z, hz, rfl⟩ := List.mem_map.mp hy
          rw [S_len]
          exact (hwd z hz).ln)
        rw [List.length_map, List.length_map] at l2
        show (((wordsOf sh ps).map S).map (·.length)).sum + ((wordsOf sh ps).map S).length * (Str.ofString "\n").length ≤ 16777216
        rw [e_nl, List.length_map]
        show _ + (wordsOf sh ps).length * 1 ≤ _
        omega
      · show Q (.str (Txt.join (Str.ofString "\n") ((wordsOf sh ps).map S))) H3
        rw [join10]
        exact k _ s3
theorem ok_law_read {f : Addr} {fd : FuncData} (T : Txt K w mg) (F : FD K "_law_read" s_law_read f fd) (hm : mg "_law_read" = some (.ref f)) (c_law_map_sheet : Cg P w K mg base 2 "_law_map_sheet" ["text"] sp_law_map_sheet) : Cg P w K mg base 3 "_law_read" ["text"] sp_law_read := by
  refine cg_of F hm sc_law_read (fun vs H Q E h => ?_) (fun _ _ _ _ _ _ us hl => match us, hl with | [_], _ => rfl) (fun _ _ _ _ _ _ us hl => match us, hl with | [_], _ => rfl) (fun cdv A outer s H vs Q E hG hr h => ?_)
  · obtain ⟨ws, rfl, _⟩ := h
    rfl
  · obtain ⟨ws, rfl, h0, hw, hl, k⟩ := h
    refine ⟨_, (pss_cons (ps_set (i := 1) sc_law_read.nd rfl (Or.inl rfl) (pe_g c_law_map_sheet hG hr (by decide) rfl (pa_cons (pv 0) pa_nil)))
      (pss_one (ps_ret (pe_ifExp (pt_cmp (pc_isN (pv 1))) pe_non (pe_tup (pa_cons (pe_ix (show IxR _ (rIxT K) from ix_tup) (pv 1) pe_int (fun _ _ => rfl)) (pa_cons (pe_callTy call_tuple_of (by rfl) T.f_tuple (by decide +kernel) (pa_cons (pe_ix (show IxR _ (rIxT K) from ix_tup) (pv 1) pe_int (fun _ _ => rfl)) pa_nil)) pa_nil))))))), ?_⟩
    refine ⟨_, rfl, ws, rfl, h0, hw, hl, fun v H2 S2 hv => ?_⟩
    cases hp : parse ws with
    | none =>
      rw [hp] at hv k
      cases (show v = V.non from hv)
      exact ⟨_, rfl, _, rfl, iteT (k _ _ S2 rfl)⟩
    | some sh =>
      rw [hp] at hv k
      obtain ⟨a, b, ts, rfl, h1, h2, h3⟩ := hv
      have L : SqT K H2 a [.str (kindS sh.leaf), .ref b] := SqT.of h1
      refine ⟨_, rfl, _, rfl, iteF ⟨_, rfl, a, _, 0, _, rfl, rfl, L, rfl, _, rfl, a, _, 1, _, rfl, rfl, L, rfl, b, _, rfl, .inl ⟨SqL.of h2, fun l nl => ⟨by show 2 ≤ sizeLine; decide, fun c nc => ?_⟩⟩⟩⟩
      have S3 : Same H2 (upd (upd H2 l (.tup (ts.map V.ref))) c (.tup [V.str (kindS sh.leaf), V.ref l])) := (Same.new nl).put (Same.free (Same.new nl) nc)
      exact k _ _ (S2.trans S3) ⟨c, rfl, l, ts, upd_same, Same.new nc _ _ upd_same, Paired.mono (fun _ _ e => e.same S3) h3⟩
theorem ok_law_near {f : Addr} {fd : FuncData} (T : Txt K w mg) (F : FD K "_law_near" s_law_near f fd) (hm : mg "_law_near" = some (.ref f)) (c_law_take : Cg P w K mg base 1 "_law_take" ["pot", "upto"] sp_law_take) (c_law_of : Cg P w K mg base 2 "_law_of" ["pot", "some"] sp_law_of) : Cg P w K mg base 3 "_law_near" ["pot", "text"] sp_law_near := by
  refine cg_of F hm sc_law_near (fun vs H Q E h => ?_) (fun _ _ _ _ _ _ us hl => match us, hl with | [_, _], _ => rfl) (fun _ _ _ _ _ _ us hl => match us, hl with | [_, _], _ => rfl) (fun cdv A outer s H vs Q E hG hr h => ?_)
  · obtain ⟨a, m, ws, rfl, _⟩ := h
    rfl
  · obtain ⟨a, m, ws, rfl, hp, hn, hn2, hw, k⟩ := h
    refine ⟨_, (pss_cons (ps_par (i := 2) (j := 3) rfl sc_law_near.nd rfl rfl (by decide) rfl rfl (pa_cons (pe_bm PySem.F.plainAttrs_str PySem.F.slot_str_split PySem.F.type_str_split mt_split (pv 1) (pa_cons pe_str pa_nil)) (pa_cons (pe_lst pa_nil) pa_nil)) (by rfl))
      (pss_cons (ps_for PassesOwn.never rfl (pi_range1 rfl T.f_range (pa_cons pe_int pa_nil)) (pg_name (i := 4) sc_law_near.nd rfl (Or.inl rfl))
        (pss_cons (ps_set (i := 5) sc_law_near.nd rfl (Or.inl rfl) (pe_g c_law_take hG hr (by decide) rfl (pa_cons (pv 0) (pa_cons (pe_callB call_len_seq (by rfl) T.f_len PySem.boot_len (pa_cons (pv 2) pa_nil)) pa_nil))))
      (pss_cons (ps_set (i := 6) sc_law_near.nd rfl (Or.inl rfl) (pe_g c_law_of hG hr (by decide) rfl (pa_cons (pv 0) (pa_cons (pe_lst (pa_cons pe_str (pa_cons pe_str (pa_cons pe_str (pa_cons pe_str (pa_cons pe_str (pa_cons pe_str (pa_cons pe_str (pa_cons pe_str (pa_cons pe_str (pa_cons pe_str (pa_cons pe_str pa_nil)))))))))))) pa_nil))))
      (pss_cons (ps_set (i := 7) sc_law_near.nd rfl (Or.inl rfl) (pe_lst (pa_cons (pe_op op_cat (pe_slice sl_list (pv 2) po_none (po_some (pv 5))) (pe_slice sl_list (pv 2) (po_some (pe_op op_add (pv 5) pe_int)) po_none)) (pa_cons (pe_op op_cat (pe_op op_cat (pe_slice sl_list (pv 2) po_none (po_some (pv 5))) (pe_lst (pa_cons (pv 6) pa_nil))) (pe_slice sl_list (pv 2) (po_some (pe_op op_add (pv 5) pe_int)) po_none)) (pa_cons (pe_op op_cat (pe_slice sl_list (pv 2) po_none (po_some (pe_op op_add (pv 5) pe_int))) (pe_slice sl_list (pv 2) (po_some (pv 5)) po_none)) pa_nil)))))
      (pss_cons (ps_set (i := 7) sc_law_near.nd rfl (Or.inl rfl) (pe_op op_cat (pv 7) (pe_lst (pa_cons (pe_op op_cat (pv 2) (pe_lst (pa_cons (pv 6) pa_nil))) (pa_cons (pe_op op_cat (pe_slice sl_list (pv 2) po_none (po_some pe_int)) (pe_revL (pe_slice sl_list (pv 2) (po_some pe_int) po_none))) (pa_cons (pe_op op_cat (pe_op op_cat (pe_op op_cat (pe_slice sl_list (pv 2) po_none (po_some pe_int)) (pe_slice sl_list (pv 2) (po_some pe_int) (po_some pe_int))) (pe_slice sl_list (pv 2) (po_some pe_int) (po_some pe_int))) (pe_slice sl_list (pv 2) (po_some pe_int) po_none)) pa_nil))))))
      (pss_one (ps_expr (pe_bm PySem.F.plainAttrs_list PySem.F.slot_list_append PySem.F.type_list_append mt_append (pv 3) (pa_cons (pe_join pe_str (pe_g c_law_of hG hr (by decide) rfl (pa_cons (pv 0) (pa_cons (pv 7) pa_nil)))) pa_nil)))))))))
      (pss_one (ps_ret (pe_lc (own := [("one", 8)]) rfl sc_law_near.nd (pi_list (pv 3)) (blkOk_by (N := ["pot", "text", "words", "found", "lap", "at", "more", "rows", "one"]) (sc := defScope s_law_near) (by decide +kernel)) (fun _ _ _ _ _ => (pg_name (i := 8) sc_law_near.nd rfl (Or.inl rfl))) (fun _ _ _ _ _ => pts_one (pt_cmpR op_le (pe_callB call_len_str (by rfl) T.f_len PySem.boot_len (pa_cons (pv 8) pa_nil)) pe_int (nomark _))) (fun _ _ _ _ _ => (pv 8))))))), ?_⟩
    have hl14 : (J10 ws).length ≤ 150 := by have := J10_le (fun w h => (hw w h).ln); omega
    have h0 : ws ≠ [] := by rintro rfl; exact absurd hn (by decide)
    refine ⟨_, rfl, rfl, _, _, rfl, rfl, (by rw [e_nl]; rfl), (by rw [S_len, sizeLine_eq]; omega), ?_⟩
    rw [e_nl, split_J10 h0 (fun w h => (hw w h).no10)]
    intro p np
    rw [map_wV]
    have S1 : Same H (upd H p (.lst (ws.map wV))) := Same.new np
    have L1 : (upd H p (.lst (ws.map wV))) p = some (.lst (ws.map wV)) := upd_same
    revert S1 L1
    show _ → _ → tLst tNil _ (upd H p (.lst (ws.map wV))) _
    generalize upd H p (.lst (ws.map wV)) = H1
    intro S1 L1
    refine ⟨by show 0 ≤ sizeLine; decide, fun F nF => ⟨_, _, rfl, ?_⟩⟩
    have P1 : PotAt H1 a (m + 30) := hp.same S1
    have pa : p ≠ a := P1.nw L1
    have Fa : F ≠ a := P1.ne nF
    refine ⟨8, rfl, by decide, by decide, for_it walk_range (fun i σ H' => But a H1 H' ∧ PotAt H' a (m + 3 * (8 - i)) ∧ ∃ tw : List (List (List Nat)), H' F = some (.lst (tw.map fun ws => V.str (S (J10 ws)))) ∧ tw.length = i ∧ (∀ x ∈ tw, x ≠ [] ∧ (∀ w ∈ x, Wd w) ∧ x.length ≤ 60) ∧ ∃ x4 x5 x6 x7, σ = [some (.ref a), some (.str (S (J10 ws))), some (.ref p), some (.ref F), x4, x5, x6, x7, none]) ⟨But.new nF, (P1.new nF).mono (by omega), [], upd_same, rfl, (fun x h => nomatch h), _, _, _, _, rfl⟩ (fun _ _ _ _ _ => trivial) (fun i x σ H2 H2' hi hq hy => ?_) fun σ H2 hq => ?_⟩
    · obtain ⟨B2, P2, tw, LF, ht, hok, x4, x5, x6, x7, rfl⟩ := hq
      obtain ⟨rfl, rfl⟩ := hy
      have hi8 : i < 8 := hi
      obtain ⟨rem, er⟩ : ∃ rem, rem = m + 3 * (8 - (i + 1)) := ⟨_, rfl⟩
      have P2' : PotAt H2' a (rem + 2 + 1) := P2.mono (by omega)
      have Lp := B2 _ _ pa L1
      rw [gname_eq]
      refine ⟨_, rfl, _, rfl, p, _, rfl, .inl (SqL.of Lp), a, _, rem + 2, rfl, by rw [List.length_map]; omega, by rw [List.length_map]; omega, P2', fun d H3 B3 P3 d0 d1 => ?_⟩
      rw [List.length_map] at d1
      refine ⟨_, rfl, by show 11 ≤ sizeLine; decide, fun D nD => ⟨a, V.ref D, rem + 1, rfl, P3.new nD, .inl ⟨D, _, rfl, P3.ne nD, upd_same, by show 1 ≤ 11; decide, by show 11 ≤ 1000; decide, fun x H4 hx B4 P4 => ?_⟩⟩⟩
      obtain ⟨mw, rfl, mww⟩ := more11 x hx
      have B4' : But a H2' H4 := B3.trans ((But.new nD).trans B4)
      have Lp4 := B4' _ _ pa Lp
      have LF4 := B4' _ _ Fa LF
      have rok := rows_ok hw hn hn2 d0 d1 mww
      have cl : ∀ lo hi : Option Int, (cutW ws lo hi).length ≤ 10 := fun lo hi => Nat.le_trans (len_cutW _ _ _) hn2
      dsimp only [gName]
      rw [seq_asg]
      refine ev3 (H0 := H4) (evw_cat (evw_sl (evw_var (p := p) rfl Lp4) evo_no (evo_v rfl)) (evw_sl (evw_var (p := p) rfl Lp4) (evo_v1 rfl) evo_no) ?_) (evw_cat (evw_cat (evw_sl (evw_var (p := p) rfl Lp4) evo_no (evo_v rfl)) (evw_one rfl) ?_) (evw_sl (evw_var (p := p) rfl Lp4) (evo_v1 rfl) evo_no) ?_) (evw_cat (evw_sl (evw_var (p := p) rfl Lp4) evo_no (evo_v1 rfl)) (evw_sl (evw_var (p := p) rfl Lp4) (evo_v rfl) evo_no) ?_) (Same.refl _) (fun q H5 S5 R5 => ?_)
      · have := cl none (some d); have := cl (some (d + 1)) none; omega
      · have := cl none (some d); show _ + 1 ≤ 1000; omega
      · have := cl none (some d); have := cl (some (d + 1)) none; rw [List.length_append]; show _ + 1 + _ ≤ 1000; omega
      · have := cl none (some (d + 1)); have := cl (some d) none; omega
      refine ⟨_, rfl, ev3 (H0 := H4) (evw_cat (evw_var (p := p) rfl Lp4) (evw_one rfl) ?_) (evw_cat (evw_sl (evw_var (p := p) rfl Lp4) evo_no evo_c) (evw_rev (evw_sl (evw_var (p := p) rfl Lp4) evo_c evo_no)) ?_) (evw_cat (evw_cat (evw_cat (evw_sl (evw_var (p := p) rfl Lp4) evo_no evo_c) (evw_sl (evw_var (p := p) rfl Lp4) evo_c evo_c) ?_) (evw_sl (evw_var (p := p) rfl Lp4) evo_c evo_c) ?_) (evw_sl (evw_var (p := p) rfl Lp4) evo_c evo_no) ?_) S5 (fun q6 H6 S6 R6 => ?_)⟩
      · show _ + 1 ≤ 1000; omega
      · have := cl none (some 1); have := cl (some 1) none; rw [List.length_reverse]; omega
      · have := cl none (some 1); have := cl (some 3) (some 5); omega
      · have := cl none (some 1); have := cl (some 3) (some 5); have := cl (some 1) (some 3); rw [List.length_append]; omega
      · have := cl none (some 1); have := cl (some 3) (some 5); have := cl (some 1) (some 3); have := cl (some 5) none; rw [List.length_append, List.length_append]; omega
      obtain ⟨s5, qs5, l5, pr5⟩ := R5
      obtain ⟨s6, qs6, l6, pr6⟩ := R6
      have pr : Paired (fun (q : Addr) (r : List (List Nat)) => H6 q = some (.lst (r.map wV))) (qs5 ++ qs6) (rowsOf ws d mw) := paired_app (Paired.mono (fun _ _ e => S6 _ _ e) pr5) pr6
      have hql : (qs5 ++ qs6).length = 6 := Paired.length pr
      refine ⟨q, q6, _, _, rfl, rfl, S6 _ _ l5, l6, ?_, fun z nz => ?_⟩
      · rw [List.length_map, List.length_map, sizeLine_eq]
        rw [List.length_append] at hql
        omega
      have P6 : PotAt H6 a (rem + 1) := P4.same s6
      have Sz : Same H4 (upd H6 z (.lst (qs5.map V.ref ++ qs6.map V.ref))) := s6.put (s6.free nz)
      refine ⟨_, rfl, .inl ⟨rfl, _, SqL.of (Sz _ _ LF4)⟩, ⟨_, rfl⟩, _, rfl, _, rfl, a, V.ref z, rem, rfl, P6.new nz, .inl ⟨z, _, rfl, P6.ne nz, upd_same, ?_, ?_, fun x H8 hx B8 P8 => ?_⟩⟩
      · rw [← List.map_append, List.length_map, hql]; decide
      · rw [← List.map_append, List.length_map, hql]; decide
      rw [← List.map_append] at hx
      obtain ⟨qr, hqr, rfl⟩ := List.mem_map.mp hx
      obtain ⟨j, r, e1, e2, hr⟩ := LiI.paired_ix pr hqr
      obtain ⟨r1, r2, r3⟩ := rok r (List.mem_of_getElem? e2)
      have qa : qr ≠ a := P6.nw hr
      have hr8 := B8 _ _ qa (Same.new (o := .lst (qs5.map V.ref ++ qs6.map V.ref)) nz _ _ hr)
      have LF8 := B8 _ _ Fa (Sz _ _ LF4)
      refine ⟨_, qr, r.map S, rfl, rfl, .inl (SqL.of (by rw [map_wV]; exact hr8)), join_room r2 r3, ?_⟩
      have BB : But a H1 H8 := (B2.trans B4').trans (fun b o n e => B8 b o n (Sz b o e))
      refine ⟨F, _, _, rfl, rfl, LF8, by rw [List.length_map, sizeLine_eq]; omega, But.putn BB nF, ?_, tw ++ [r], ?_, by simp [ht], ?_, _, _, _, _, rfl⟩
      · rw [← er]; exact P8.put Fa
      · rw [upd_same, List.map_append, ← e_nl, join10]; rfl
      · intro x hx
        rcases List.mem_append.mp hx with z | z
        · exact hok x z
        · rw [List.mem_singleton.mp z]; exact ⟨r1, r2, r3⟩
    · obtain ⟨B2, P2, tw, LF, ht, hok, x4, x5, x6, x7, rfl⟩ := hq
      have ht8 : tw.length = 8 := ht
      have P2' : PotAt H2 a m := P2.mono (by show m ≤ m + 3 * (8 - 8); omega)
      refine ⟨_, rfl, F, rfl, ⟨_, SqL.of LF⟩, fun D nD => lc_it (walk_list (xs := tw.map fun ws => V.str (S (J10 ws)))) (fun i H' => Same H2 H' ∧ ∃ t2 : List (List (List Nat)), H' D = some (.lst (t2.map fun ws => V.str (S (J10 ws)))) ∧ t2.length ≤ i ∧ ∀ x ∈ t2, x ∈ tw ∧ (J10 x).length ≤ 113) ⟨Same.new nD, [], upd_same, Nat.le_refl _, fun x h => nomatch h⟩ (fun i H' _ h => SqL.of (h.1 _ _ LF)) ?_ ?_⟩
      · rintro i x H3 H4 hi ⟨s3, t2, LD, l2, ok2⟩ ⟨rfl, hv⟩
        rw [List.length_map] at hi
        rw [List.getElem?_map, List.getElem?_eq_getElem hi] at hv
        have hv2 := Option.some.inj hv
        subst hv2
        obtain ⟨r1, r2, r3⟩ := hok _ (List.getElem_mem hi)
        have jl := J10_le (ws := tw[i]) (fun w h => (r2 w h).ln)
        refine ⟨rfl, _, rfl, _, rfl, by rw [S_len, sizeLine_eq]; omega, _, _, rfl, rfl, _, rfl, ?_⟩
        rw [S_len]
        by_cases c : ((J10 tw[i]).length : Int) ≤ 113
        · rw [decide_eq_true c]
          refine iteT ⟨_, rfl, _, LD, by rw [List.length_map, sizeLine_eq]; omega, s3.put nD, t2 ++ [tw[i]], by rw [upd_same, List.map_append]; rfl, by rw [List.length_append]; show _ + 1 ≤ _; omega, fun x hx => ?_⟩
          rcases List.mem_append.mp hx with z | z
          · exact ok2 x z
          · rw [List.mem_singleton.mp z]; exact ⟨List.getElem_mem hi, by omega⟩
        · rw [decide_eq_false c]
          exact iteF ⟨s3, t2, LD, by omega, ok2⟩
      · rintro H3 ⟨s3, t2, LD, l2, ok2⟩
        rw [List.length_map] at l2
        have P3 := P2'.same s3
        refine k D t2 H3 (fun b o n e => s3 b o (B2 b o n (S1 b o e))) P3 (P2'.ne nD) LD (by omega) fun x hx => ?_
        obtain ⟨q1, q2⟩ := ok2 x hx
        exact ⟨(hok x q1).1, (hok x q1).2.1, q2⟩
theorem ok_law_right {f : Addr} {fd : FuncData} (T : Txt K w mg) (F : FD K "_law_right" s_law_right f fd) (hm : mg "_law_right" = some (.ref f)) (c_law_sheet : Cg P w K mg base 4 "_law_sheet" ["pot"] sp_law_sheet) (c_law_text : Cg P w K mg base 1 "_law_text" ["sheet", "places"] sp_law_text) (c_written : Cg P w K mg base 5 "written" ["sheet", "places"] sp_written) (c_law_near : Cg P w K mg base 3 "_law_near" ["pot", "text"] sp_law_near) (c_sheet_in : Cg P w K mg base 6 "sheet_in" ["text"] sp_sheet_in) (c_law_take : Cg P w K mg base 1 "_law_take" ["pot", "upto"] sp_law_take) (c_law_read : Cg P w K mg base 3 "_law_read" ["text"] sp_law_read) (k_written : Cgk P w K mg base 5 "written" ["sheet", "places"] ["places", "sheet"] [1, 0] sp_written) : Cg P w K mg base 7 "_law_right" ["pot"] sp_law_right := by
  refine cg_of F hm sc_law_right (fun vs H Q E h => ?_) (fun _ _ _ _ _ _ us hl => match us, hl with | [_], _ => rfl) (fun _ _ _ _ _ _ us hl => match us, hl with | [_], _ => rfl) (fun cdv A outer s H vs Q E hG hr h => ?_)
  · obtain ⟨a, m, rfl, _⟩ := h
    rfl
  · obtain ⟨a, m, rfl, hp, k⟩ := h
    refine ⟨_, (pss_cons (ps_for PassesOwn.never rfl (pi_range1 rfl T.f_range (pa_cons pe_int pa_nil)) (pg_name (i := 1) sc_law_right.nd rfl (Or.inl rfl))
        (pss_cons (ps_set (i := 2) sc_law_right.nd rfl (Or.inl rfl) (pe_g c_law_sheet hG hr (by decide) rfl (pa_cons (pv 0) pa_nil)))
      (pss_cons (ps_set (i := 3) sc_law_right.nd rfl (Or.inl rfl) (pe_callTy call_tuple_of (by rfl) T.f_tuple (by decide +kernel) (pa_cons (pe_lc (own := [("child", 6)]) rfl sc_law_right.nd (pi_range1 rfl T.f_range (pa_cons pe_int pa_nil)) (blkOk_by (N := ["pot", "lap", "sheet", "places", "due", "text", "child"]) (sc := defScope s_law_right) (by decide +kernel)) (fun _ _ _ _ _ => (pg_name (i := 6) sc_law_right.nd rfl (Or.inl rfl))) (fun _ _ _ _ _ => pts_nil) (fun _ _ _ _ _ => (pe_g c_law_take hG hr (by decide) rfl (pa_cons (pv 0) (pa_cons pe_int pa_nil))))) pa_nil)))
      (pss_cons (ps_set (i := 4) sc_law_right.nd rfl (Or.inl rfl) (pe_g c_law_text hG hr (by decide) rfl (pa_cons (pv 2) (pa_cons (pv 3) pa_nil))))
      (pss_cons (ps_if (pt_cmpR op_ne (pe_gk k_written hG hr (by decide) rfl (pk_cons (pv 3) (pk_cons (pv 2) pk_nil))) (pv 4) (nomark _)) (pss_one (ps_ret pe_bl)) pss_nil)
      (pss_one (ps_for PassesOwn.never rfl (pi_list (pe_op op_cat (pe_lst (pa_cons (pv 4) pa_nil)) (pe_g c_law_near hG hr (by decide) rfl (pa_cons (pv 0) (pa_cons (pv 4) pa_nil))))) (pg_name (i := 5) sc_law_right.nd rfl (Or.inl rfl))
        (pss_one (ps_if (pt_cmpR op_ne (pe_callB (call_reprA hG hr) (by rfl) T.f_repr (by decide +kernel) (pa_cons (pe_gN c_sheet_in hG hr (by decide) rfl (pk_cons (pv 5) pk_nil)) pa_nil)) (pe_callB (call_reprA hG hr) (by rfl) T.f_repr (by decide +kernel) (pa_cons (pe_g c_law_read hG hr (by decide) rfl (pa_cons (pv 5) pa_nil)) pa_nil)) (nomark _)) (pss_one (ps_ret pe_bl)) pss_nil)))))))))
      (pss_one (ps_ret (pe_cmpR op_eq (pe_callB (call_reprA hG hr) (by rfl) T.f_repr (by decide +kernel) (pa_cons (pe_g c_sheet_in hG hr (by decide) rfl (pa_cons pe_str pa_nil)) pa_nil)) pe_str (nomark _))))), ?_⟩
    refine ⟨5, rfl, by decide, by decide, for_it walk_range (fun i σ H' => But a H H' ∧ PotAt H' a (m + 100 * (5 - i)) ∧ ∃ x1 x2 x3 x4 x5, σ = [some (.ref a), x1, x2, x3, x4, x5, none]) ⟨(fun b o _ e => e), hp.mono (by omega), _, _, _, _, _, rfl⟩ (fun _ _ _ _ _ => trivial) (fun i x σ H2 H2' hi hq hy => ?_) fun σ H2 hq => ?_⟩
    · obtain ⟨B2, P2, x1, x2, x3, x4, x5, rfl⟩ := hq
      obtain ⟨rfl, rfl⟩ := hy
      have hi5 : i < 5 := hi
      obtain ⟨rem, er⟩ : ∃ rem, rem = m + 100 * (5 - (i + 1)) := ⟨_, rfl⟩
      rw [gname_eq]
      refine ⟨_, rfl, a, rem + 70, rfl, P2.mono (by omega), fun q sh H3 B3 P3 hsh fm hn4 hok hnw => ?_⟩
      refine ⟨5, rfl, by decide, by decide, fun D nD => lc_pot walk_range a (rem + 40) 1 (fun y => ∃ n : Int, y = V.int n ∧ 0 ≤ n ∧ n < 600) nD (P3.mono (by show rem + 40 + 1 * 5 ≤ rem + 70; omega)) (by decide) (fun _ _ => trivial) ?_ mono_name ?_⟩
      · rintro j y H4 H5 N kk hj hB hP ⟨rfl, rfl⟩ h1
        exact ⟨rfl, _, rfl, a, 600, kk, rfl, by decide, by decide, hP, fun d H6 B6 P6 d0 d1 => h1 _ _ B6 ⟨d, rfl, d0, d1⟩ P6⟩
      intro H4 ys B4 P4 hl hy hL
      obtain ⟨ps, rfl, hps⟩ := ex_ints hy
      rw [List.length_map] at hl
      have hl5 : ps.length = 5 := hl
      refine ⟨D, _, rfl, .inl ⟨SqL.of hL, fun l nl => ?_⟩⟩
      have S5 : Same H4 (upd H4 l (.tup (ps.map V.int))) := Same.new nl
      have L5 : (upd H4 l (.tup (ps.map V.int))) l = some (.tup (ps.map V.int)) := upd_same
      have P5 : PotAt (upd H4 l (.tup (ps.map V.int))) a (rem + 40) := P4.same S5
      have hsh5 : ShAt (upd H4 l (.tup (ps.map V.int))) q sh := (ShAt.but P3 hsh B4).same S5
      revert S5 L5 P5 hsh5
      show _ → _ → _ → _ → gName 3 (V.ref l) _ (upd H4 l (.tup (ps.map V.int))) _
      generalize upd H4 l (.tup (ps.map V.int)) = H5
      intro S5 L5 P5 hsh5
      have hnw' : ∀ e ∈ sh.es, ∀ i, (e.2 = .pl i → 0 ≤ i ∧ i < 10 ^ 12) ∧ (e.2 = .nw i → 0 ≤ i ∧ i < ps.length) := fun e he i => ⟨(hnw e he i).1, fun z => by have := (hnw e he i).2 z; omega⟩
      obtain ⟨dl, w2, w10⟩ := due_len fm hn4 hok hps hnw'
      have wwd := words_wd fm hps hnw'
      refine ⟨_, rfl, _, rfl, q, l, sh, ps, rfl, hsh5, fm, hn4, hok, L5, by omega, hps, hnw', fun H6 S6 => ?_⟩
      refine ⟨_, rfl, _, rfl, rfl, q, l, sh, ps, rfl, hsh5.same S6, fm, hn4, hok, S6 _ _ L5, by omega, hps, hnw', fun H7 S7 => ⟨_, rfl, rfl, _, rfl, ?_⟩⟩
      rw [str_ne]
      refine iteF ?_
      have P7 : PotAt H7 a (rem + 40) := P5.same (S6.trans S7)
      refine ⟨_, rfl, by show 1 ≤ sizeLine; decide, fun D2 nD2 => ⟨_, rfl, _, rfl, a, rem, wordsOf sh ps, rfl, (P7.new nD2).mono (by omega), w2, w10, wwd, fun p tw H8 B8 P8 pa Lp l8 ok => ⟨D2, p, _, _, rfl, rfl, B8 _ _ (P7.ne nD2) upd_same, Lp, ?_, fun z nz => ⟨z, rfl, ⟨_, SqL.of upd_same⟩, ?_⟩⟩⟩⟩
      · rw [List.length_map, sizeLine_eq]
        show 1 + _ ≤ _
        omega
      have BB : But a H H8 := (((B2.trans B3).trans B4).trans (fun b o _ e => S7 _ _ (S6 _ _ (S5 _ _ e)))).trans ((But.new nD2).trans B8)
      have Lz : (upd H8 z (.lst ([V.str (S (J10 (wordsOf sh ps)))] ++ tw.map fun ws => V.str (S (J10 ws))))) z = some (.lst ((wordsOf sh ps :: tw).map fun ws => V.str (S (J10 ws)))) := upd_same
      have Sz : Same H8 (upd H8 z (.lst ([V.str (S (J10 (wordsOf sh ps)))] ++ tw.map fun ws => V.str (S (J10 ws))))) := Same.new nz
      have okk : ∀ t ∈ wordsOf sh ps :: tw, t ≠ [] ∧ (∀ w ∈ t, Wd w) ∧ (J10 t).length ≤ 113 := fun t ht => by
        rcases List.mem_cons.mp ht with e | e
        · rw [e]; exact ⟨(fun e => by rw [e] at w2; exact absurd w2 (by decide)), wwd, dl⟩
        · exact ok t e
      revert Lz Sz
      show _ → _ → ∃ W : Nat → Nat → L2.St → Hp → Prop, (∃ m, W 0 m _ (upd H8 z (.lst ([V.str (S (J10 (wordsOf sh ps)))] ++ tw.map fun ws => V.str (S (J10 ws)))))) ∧ _
      generalize upd H8 z (.lst ([V.str (S (J10 (wordsOf sh ps)))] ++ tw.map fun ws => V.str (S (J10 ws)))) = H9
      intro Lz Sz
      refine for_it (walk_list (xs := (wordsOf sh ps :: tw).map fun ws => V.str (S (J10 ws)))) (fun j σ H' => Same H9 H' ∧ ∃ y5, σ = [some (.ref a), some (.int (0 + (i : Int))), some (.ref q), some (.ref l), some (.str (S (J10 (wordsOf sh ps)))), y5, none]) ⟨Same.refl _, _, rfl⟩ (fun j σ H' _ h => SqL.of (h.1 _ _ Lz)) (fun j x σ H10 H10' hj hq hy => ?_) fun σ H10 hq => ?_
      · obtain ⟨s10, y5, rfl⟩ := hq
        obtain ⟨rfl, hv⟩ := hy
        rw [List.length_map] at hj
        rw [List.getElem?_map, List.getElem?_eq_getElem hj] at hv
        have hv2 := Option.some.inj hv
        subst hv2
        obtain ⟨t1, t2, t3⟩ := okk _ (List.getElem_mem hj)
        obtain ⟨f1, f2, f3⟩ := parse_fine t2
        rw [gname_eq]
        refine ⟨_, rfl, _, rfl, t1, t2, t3, fun v1 H11 S11 hv1 => ⟨v1, _, rfl, .of (dp_opt hv1), f1, f2, f3, _, rfl, _, rfl, t1, t2, by omega, fun v2 H12 S12 hv2 => ⟨v2, _, rfl, .of (dp_opt hv2), f1, f2, f3, rfl, _, rfl, ?_⟩⟩⟩
        rw [str_ne]
        exact iteF ⟨(s10.trans S11).trans S12, _, rfl⟩
      · obtain ⟨s10, y5, rfl⟩ := hq
        exact ⟨fun b o n e => s10 _ _ (Sz _ _ (BB b o n e)), ((P8.same Sz).same s10).mono (by omega), _, _, _, _, _, rfl⟩
    · obtain ⟨B2, P2, x1, x2, x3, x4, x5, rfl⟩ := hq
      have w0 : ∀ w ∈ [([] : List Nat)], Wd w := fun w hw => by
        rw [List.mem_singleton.mp hw]
        exact ⟨(fun c hc => nomatch hc), Nat.zero_le _, fun _ => Nat.zero_le _⟩
      refine ⟨[[]], by rw [e_nil]; rfl, (fun z => nomatch z), w0, Nat.zero_le _, fun v H3 S3 hv => ?_⟩
      have pn : parse [[]] = none := parse_none fun q => q.1.elim (fun z => nomatch z) fun z => nomatch z
      obtain ⟨f1, f2, f3⟩ := parse_fine w0
      have hv2 := dp_opt (K := K) hv
      rw [pn] at f1 f2 f3 hv2
      refine ⟨v, _, rfl, .of hv2, f1, f2, f3, rfl, ?_⟩
      rw [show decide (V.str (PyData.shown (optD none)) = V.str (Str.ofString "None")) = true from decide_eq_true rfl]
      exact k _ (fun b o n e => S3 b o (B2 b o n e))
theorem ok_law {f : Addr} {fd : FuncData} (T : Txt K w mg) (F : FD K "law" s_law f fd) (hm : mg "law" = some (.ref f)) (c_law_right : Cg P w K mg base 7 "_law_right" ["pot"] sp_law_right) (c_law_pot : Cg P w K mg base 1 "_law_pot" ["script", "place"] (sp_law_pot K)) (c_law_cells : Cg P w K mg base 1 "_law_cells" ["script", "most"] (sp_law_cells K)) : Cg P w K mg base 8 "law" ["script"] (sp_law K) := by
  refine cg_of F hm sc_law (fun vs H Q E h => ?_) (fun _ _ _ _ _ _ us hl => match us, hl with | [_], _ => rfl) (fun _ _ _ _ _ _ us hl => match us, hl with | [_], _ => rfl) (fun cdv A outer s H vs Q E hG hr h => ?_)
  · obtain ⟨a, ns, rfl, _⟩ := h
    rfl
  · obtain ⟨a, ns, rfl, hx, k⟩ := h
    refine ⟨_, (pss_one (ps_ret (pe_callB (cr_all rfl) (by rfl) T.f_all (by decide +kernel) (pa_cons (pe_lc (own := [("place", 1)]) rfl sc_law.nd (pi_list (pe_g c_law_cells hG hr (by decide) rfl (pa_cons (pv 0) (pa_cons pe_int pa_nil)))) (blkOk_by (N := ["script", "place"]) (sc := defScope s_law) (by decide +kernel)) (fun _ _ _ _ _ => (pg_name (i := 1) sc_law.nd rfl (Or.inl rfl))) (fun _ _ _ _ _ => pts_nil) (fun _ _ _ _ _ => (pe_g c_law_right hG hr (by decide) rfl (pa_cons (pe_g c_law_pot hG hr (by decide) rfl (pa_cons (pv 0) (pa_cons (pv 1) pa_nil))) pa_nil)))) pa_nil)))), ?_⟩
    refine ⟨_, rfl, a, ns, 2, rfl, hx, by decide, by decide, fun n q H2 hn hS hq hL => ⟨q, rfl, ⟨_, SqL.of hL⟩, fun D hD => lc_map (walk_list (xs := (List.range n).map fun i => V.int (i : Nat))) (fun _ => V.bl true) hD (by rw [List.length_map, List.length_range]; omega) (fun H3 hS3 => SqL.of (hS3 _ _ hL)) ?_ mono_name ?_⟩⟩
    · rintro i x H3 H4 N hi hS3 ⟨rfl, hv⟩ h1
      rw [List.length_map, List.length_range] at hi
      rw [List.getElem?_map, List.getElem?_range hi] at hv
      have hv2 := Option.some.inj hv
      subst hv2
      have S3 := hS.trans hS3
      refine ⟨rfl, _, rfl, _, rfl, a, ns, i, rfl, S3.seq hx, by omega, fun p H5 S5 np hp => ⟨p, 0, rfl, hp.mono (by omega), fun H6 B6 => h1 _ fun b o e => B6 _ _ (ne_of_none e np) (S5 _ _ e)⟩⟩
    · intro H3 hS3 hL3
      have e : (List.range ((List.range n).map fun i => V.int (i : Nat)).length).map (fun _ => V.bl true) = (List.replicate n true).map V.bl := by
        rw [List.length_map, List.length_range, List.map_const', List.length_range, List.map_replicate]
      rw [e] at hL3
      refine ⟨D, _, rfl, SqL.of hL3, ?_⟩
      have e2 : (List.replicate n true).all id = true := by
        rw [List.all_eq_true]
        intro b hb
        exact (List.eq_of_mem_replicate hb)
      rw [e2]
      exact k _
end
/-! ### the head: facts by names, the run -/
def d_is_integer : He.DefD := ⟨("is_integer", none), "is_integer", "is_integer", defArgs s_is_integer, defBody s_is_integer, defScope s_is_integer, [], []⟩
def d_is_from : He.DefD := ⟨("is_from", none), "is_from", "is_from", defArgs s_is_from, defBody s_is_from, defScope s_is_from, [], []⟩
def d_has_only : He.DefD := ⟨("has_only", none), "has_only", "has_only", defArgs s_has_only, defBody s_has_only, defScope s_has_only, [], []⟩
def d_number_in : He.DefD := ⟨("number_in", none), "number_in", "number_in", defArgs s_number_in, defBody s_number_in, defScope s_number_in, [], []⟩
def d_are_signs : He.DefD := ⟨("are_signs", none), "are_signs", "are_signs", defArgs s_are_signs, defBody s_are_signs, defScope s_are_signs, [], []⟩
def d_is_page_text : He.DefD := ⟨("is_page_text", none), "is_page_text", "is_page_text", defArgs s_is_page_text, defBody s_is_page_text, defScope s_is_page_text, [], []⟩
def d_is_key : He.DefD := ⟨("is_key", none), "is_key", "is_key", defArgs s_is_key, defBody s_is_key, defScope s_is_key, [], []⟩
def d_is_value : He.DefD := ⟨("is_value", none), "is_value", "is_value", defArgs s_is_value, defBody s_is_value, defScope s_is_value, [], []⟩
def d_is_child : He.DefD := ⟨("is_child", none), "is_child", "is_child", defArgs s_is_child, defBody s_is_child, defScope s_is_child, [], []⟩
def d_is_sheet : He.DefD := ⟨("is_sheet", none), "is_sheet", "is_sheet", defArgs s_is_sheet, defBody s_is_sheet, defScope s_is_sheet, [], []⟩
def d_sheet_of : He.DefD := ⟨("sheet_of", none), "sheet_of", "sheet_of", defArgs s_sheet_of, defBody s_sheet_of, defScope s_sheet_of, [], []⟩
def d_sheet_in : He.DefD := ⟨("sheet_in", none), "sheet_in", "sheet_in", defArgs s_sheet_in, defBody s_sheet_in, defScope s_sheet_in, [], []⟩
def d_written : He.DefD := ⟨("written", none), "written", "written", defArgs s_written, defBody s_written, defScope s_written, [], []⟩
def d_law_pot : He.DefD := ⟨("_law_pot", none), "_law_pot", "_law_pot", defArgs s_law_pot, defBody s_law_pot, defScope s_law_pot, [], []⟩
def d_law_take : He.DefD := ⟨("_law_take", none), "_law_take", "_law_take", defArgs s_law_take, defBody s_law_take, defScope s_law_take, [], []⟩
def d_law_of : He.DefD := ⟨("_law_of", none), "_law_of", "_law_of", defArgs s_law_of, defBody s_law_of, defScope s_law_of, [], []⟩
def d_law_cells : He.DefD := ⟨("_law_cells", none), "_law_cells", "_law_cells", defArgs s_law_cells, defBody s_law_cells, defScope s_law_cells, [], []⟩
def d_law_map_is_key : He.DefD := ⟨("_law_map_is_key", none), "_law_map_is_key", "_law_map_is_key", defArgs s_law_map_is_key, defBody s_law_map_is_key, defScope s_law_map_is_key, [], []⟩
def d_law_map_is_value : He.DefD := ⟨("_law_map_is_value", none), "_law_map_is_value", "_law_map_is_value", defArgs s_law_map_is_value, defBody s_law_map_is_value, defScope s_law_map_is_value, [], []⟩
def d_law_map_number : He.DefD := ⟨("_law_map_number", none), "_law_map_number", "_law_map_number", defArgs s_law_map_number, defBody s_law_map_number, defScope s_law_map_number, [], []⟩
def d_law_map_sheet : He.DefD := ⟨("_law_map_sheet", none), "_law_map_sheet", "_law_map_sheet", defArgs s_law_map_sheet, defBody s_law_map_sheet, defScope s_law_map_sheet, [], []⟩
def d_law_map_key_drawn : He.DefD := ⟨("_law_map_key_drawn", none), "_law_map_key_drawn", "_law_map_key_drawn", defArgs s_law_map_key_drawn, defBody s_law_map_key_drawn, defScope s_law_map_key_drawn, [], []⟩
def d_law_map_value_drawn : He.DefD := ⟨("_law_map_value_drawn", none), "_law_map_value_drawn", "_law_map_value_drawn", defArgs s_law_map_value_drawn, defBody s_law_map_value_drawn, defScope s_law_map_value_drawn, [], []⟩
def d_law_sheet : He.DefD := ⟨("_law_sheet", none), "_law_sheet", "_law_sheet", defArgs s_law_sheet, defBody s_law_sheet, defScope s_law_sheet, [], []⟩
def d_law_text : He.DefD := ⟨("_law_text", none), "_law_text", "_law_text", defArgs s_law_text, defBody s_law_text, defScope s_law_text, [], []⟩
def d_law_read : He.DefD := ⟨("_law_read", none), "_law_read", "_law_read", defArgs s_law_read, defBody s_law_read, defScope s_law_read, [], []⟩
def d_law_near : He.DefD := ⟨("_law_near", none), "_law_near", "_law_near", defArgs s_law_near, defBody s_law_near, defScope s_law_near, [], []⟩
def d_law_right : He.DefD := ⟨("_law_right", none), "_law_right", "_law_right", defArgs s_law_right, defBody s_law_right, defScope s_law_right, [], []⟩
def d_law : He.DefD := ⟨("law", none), "law", "law", defArgs s_law, defBody s_law, defScope s_law, [], []⟩
def fn : List He.DefD := [d_is_integer, d_is_from, d_has_only, d_number_in, d_are_signs, d_is_page_text, d_is_key, d_is_value, d_is_child, d_is_sheet, d_sheet_of, d_sheet_in] ++ [d_written, d_law_pot, d_law_take, d_law_of, d_law_cells, d_law_map_is_key, d_law_map_is_value, d_law_map_number, d_law_map_sheet, d_law_map_key_drawn, d_law_map_value_drawn, d_law_sheet] ++ [d_law_text, d_law_read, d_law_near, d_law_right, d_law]
def fa : List He.Fa := [.glo "is_integer", .glo "is_from", .glo "has_only", .glo "number_in", .glo "are_signs", .glo "is_page_text", .glo "is_key", .glo "is_value", .glo "is_child", .glo "is_sheet", .glo "sheet_of", .glo "sheet_in"] ++ [.glo "written", .glo "_law_pot", .glo "_law_take", .glo "_law_of", .glo "_law_cells", .glo "_law_map_is_key", .glo "_law_map_is_value", .glo "_law_map_number", .glo "_law_map_sheet", .glo "_law_map_key_drawn", .glo "_law_map_value_drawn", .glo "_law_sheet"] ++ [.glo "_law_text", .glo "_law_read", .glo "_law_near", .glo "_law_right", .glo "law", .free "isinstance", .free "int", .free "bool", .free "str", .free "len", .free "tuple", .free "list"] ++ [.free "zip", .free "all", .free "abs", .free "sum", .free "range", .free "max", .free "min", .free "sorted", .free "set", .free "repr", .str "FIGURES" (SX.S [48, 49, 50, 51, 52, 53, 54, 55, 56, 57]), .str "SIGNS" (SX.S [32, 33, 34, 35, 36, 32, 38, 39, 40, 41, 42, 43, 44, 45, 46, 47, 48, 49, 50, 51, 52, 53, 54, 55, 56, 57, 58, 59, 60, 61, 62, 63, 64, 65, 66, 67, 68, 69, 70, 71, 72, 73, 74, 75, 76, 77, 78, 79, 80, 81, 82, 83, 84, 85, 86, 87, 88, 89, 90, 91, 92, 93, 94, 95, 96, 97, 98, 99, 100, 101, 102, 103, 104, 105, 106, 107, 108, 109, 110, 111, 112, 113, 114, 115, 116, 117, 118, 119, 120, 121, 122, 123, 124, 125, 126])] ++ [.int "MOST_PAGE_TEXT" 113, .int "MOST_KEY" 13, .int "MOST_ENTRIES" 4]
def ts : List He.Tab := []
def ex (K : PySem.W.Frag) : Bool := true
abbrev R : PySem.W.OpenRow := PySem.W.OpenLaw.row PySem.Challenge.rw_worneven_k15_whole_sheets_and_page_texts
abbrev hk : PySem.W.Hook := He.hookX 4 fa fn ts [] ex
def ob (s : PySem.W.SharedT) : He.AlX := He.obsX 4 fa fn ts [] ex (HandSHeadRun.getT s)
theorem ob_eq (s : PySem.W.SharedT) : ob s = hk.obs s.abs := He.obsX_eq (HandSHeadRun.getT_eq s)
def loose1 : List Str := (["__name__", "FlashError", "BadText", "BadSheet", "BadPlaces", "FIGURES", "SIGNS", "MOST_PAGE_TEXT", "MOST_KEY", "is_integer", "is_from", "has_only"] : List Str) ++ (["number_in", "are_signs", "is_page_text", "is_key", "is_value", "MOST_ENTRIES", "is_child", "is_sheet", "sheet_of", "sheet_in", "written", "_law_pot"] : List Str) ++ (["_law_take", "_law_of", "_law_cells", "_law_map_is_key", "_law_map_is_value", "_law_map_number", "_law_map_sheet", "_law_map_key_drawn", "_law_map_value_drawn", "_law_sheet", "_law_text", "_law_read"] : List Str) ++ (["_law_near", "_law_right"] : List Str)
theorem runA (w : World) : HandSHeadRun.RunEq R (PySem.W.view R.prog [41]) hk ob 6000 loose1 (w.withFollow "special-get-raises" false) := by
  intro os
  kernel_rfl
theorem runB (w : World) : HandSHeadRun.RunEq R (PySem.W.view R.prog [41]) hk ob 6000 loose1 (w.withFollow "special-get-raises" true) := by
  intro os
  kernel_rfl
theorem run (w : World) : HandSHeadRun.RunEq R (PySem.W.view R.prog [41]) hk ob 6000 loose1 w := PySem.W.byRow2 "special-get-raises" (P := HandSHeadRun.RunEq R (PySem.W.view R.prog [41]) hk ob 6000 loose1) runA runB w
section
variable {P : Program} {w : World} {K : PySem.W.Frag} {h : Heap} {mg : Str → Option Value}
theorem more_of (c : He.SaysX fa fn ts [] ex w h K) : True := by
  trivial
theorem txt_of (X : K.In h) (G : h.Ns mainGlobals mg) (c : He.SaysX fa fn ts [] ex w h K) : Txt K w mg := by
  have d := c.t.d
  exact ⟨(He.free_ok X G (d.fact 29 (f := .free "isinstance") rfl)),
    (He.free_ok X G (d.fact 30 (f := .free "int") rfl)),
    (He.free_ok X G (d.fact 31 (f := .free "bool") rfl)),
    (He.free_ok X G (d.fact 32 (f := .free "str") rfl)),
    (He.free_ok X G (d.fact 33 (f := .free "len") rfl)),
    (He.free_ok X G (d.fact 34 (f := .free "tuple") rfl)),
    (He.free_ok X G (d.fact 35 (f := .free "list") rfl)),
    (He.free_ok X G (d.fact 36 (f := .free "zip") rfl)),
    (He.free_ok X G (d.fact 37 (f := .free "all") rfl)),
    (He.free_ok X G (d.fact 38 (f := .free "abs") rfl)),
    (He.free_ok X G (d.fact 39 (f := .free "sum") rfl)),
    (He.free_ok X G (d.fact 40 (f := .free "range") rfl)),
    (He.free_ok X G (d.fact 41 (f := .free "max") rfl)),
    (He.free_ok X G (d.fact 42 (f := .free "min") rfl)),
    (He.free_ok X G (d.fact 43 (f := .free "sorted") rfl)),
    (He.free_ok X G (d.fact 44 (f := .free "set") rfl)),
    (He.free_ok X G (d.fact 45 (f := .free "repr") rfl)),
    (let ⟨t, e⟩ := He.str_ok X G (d.fact 46 (f := .str "FIGURES" (SX.S [48, 49, 50, 51, 52, 53, 54, 55, 56, 57])) rfl); ⟨_, e, t, rfl⟩),
    (let ⟨t, e⟩ := He.str_ok X G (d.fact 47 (f := .str "SIGNS" (SX.S [32, 33, 34, 35, 36, 32, 38, 39, 40, 41, 42, 43, 44, 45, 46, 47, 48, 49, 50, 51, 52, 53, 54, 55, 56, 57, 58, 59, 60, 61, 62, 63, 64, 65, 66, 67, 68, 69, 70, 71, 72, 73, 74, 75, 76, 77, 78, 79, 80, 81, 82, 83, 84, 85, 86, 87, 88, 89, 90, 91, 92, 93, 94, 95, 96, 97, 98, 99, 100, 101, 102, 103, 104, 105, 106, 107, 108, 109, 110, 111, 112, 113, 114, 115, 116, 117, 118, 119, 120, 121, 122, 123, 124, 125, 126])) rfl); ⟨_, e, t, rfl⟩),
    (let ⟨t, e⟩ := He.int_ok X G (d.fact 48 (f := .int "MOST_PAGE_TEXT" 113) rfl); ⟨_, e, t, rfl⟩),
    (let ⟨t, e⟩ := He.int_ok X G (d.fact 49 (f := .int "MOST_KEY" 13) rfl); ⟨_, e, t, rfl⟩),
    (let ⟨t, e⟩ := He.int_ok X G (d.fact 50 (f := .int "MOST_ENTRIES" 4) rfl); ⟨_, e, t, rfl⟩)⟩
end
section
variable {P : Program} {w : World} {K : PySem.W.Frag} {h : Heap} {mg : Str → Option Value}
theorem facts (X : K.In h) (G : h.Ns mainGlobals mg) (c : He.SaysX fa fn ts [] ex w h K) (base : Heap) : Cg P w K mg base 8 "law" ["script"] (sp_law K) := by
  have T := txt_of X G c
  have d := c.t.d
  obtain ⟨fd_is_integer, F_is_integer⟩ := d.def_ 0 (d := d_is_integer) rfl
  have c_is_integer := ok_is_integer (P := P) (base := base) T F_is_integer (He.glo_ok X G (d.fact 0 (f := .glo "is_integer") rfl))
  obtain ⟨fd_has_only, F_has_only⟩ := d.def_ 2 (d := d_has_only) rfl
  have c_has_only := ok_has_only (P := P) (base := base) T F_has_only (He.glo_ok X G (d.fact 2 (f := .glo "has_only") rfl))
  obtain ⟨fd_law_pot, F_law_pot⟩ := d.def_ 13 (d := d_law_pot) rfl
  have c_law_pot := ok_law_pot (P := P) (base := base) T F_law_pot (He.glo_ok X G (d.fact 13 (f := .glo "_law_pot") rfl))
  obtain ⟨fd_law_take, F_law_take⟩ := d.def_ 14 (d := d_law_take) rfl
  have c_law_take := ok_law_take (P := P) (base := base) T F_law_take (He.glo_ok X G (d.fact 14 (f := .glo "_law_take") rfl))
  obtain ⟨fd_law_cells, F_law_cells⟩ := d.def_ 16 (d := d_law_cells) rfl
  have c_law_cells := ok_law_cells (P := P) (base := base) T F_law_cells (He.glo_ok X G (d.fact 16 (f := .glo "_law_cells") rfl))
  obtain ⟨fd_law_map_is_key, F_law_map_is_key⟩ := d.def_ 17 (d := d_law_map_is_key) rfl
  have c_law_map_is_key := ok_law_map_is_key (P := P) (base := base) T F_law_map_is_key (He.glo_ok X G (d.fact 17 (f := .glo "_law_map_is_key") rfl))
  obtain ⟨fd_law_map_is_value, F_law_map_is_value⟩ := d.def_ 18 (d := d_law_map_is_value) rfl
  have c_law_map_is_value := ok_law_map_is_value (P := P) (base := base) T F_law_map_is_value (He.glo_ok X G (d.fact 18 (f := .glo "_law_map_is_value") rfl))
  obtain ⟨fd_law_map_number, F_law_map_number⟩ := d.def_ 19 (d := d_law_map_number) rfl
  have c_law_map_number := ok_law_map_number (P := P) (base := base) T F_law_map_number (He.glo_ok X G (d.fact 19 (f := .glo "_law_map_number") rfl))
  obtain ⟨fd_law_text, F_law_text⟩ := d.def_ 24 (d := d_law_text) rfl
  have c_law_text := ok_law_text (P := P) (base := base) T F_law_text (He.glo_ok X G (d.fact 24 (f := .glo "_law_text") rfl))
  obtain ⟨fd_is_from, F_is_from⟩ := d.def_ 1 (d := d_is_from) rfl
  have c_is_from := ok_is_from (P := P) (base := base) T F_is_from (He.glo_ok X G (d.fact 1 (f := .glo "is_from") rfl)) c_is_integer
  obtain ⟨fd_number_in, F_number_in⟩ := d.def_ 3 (d := d_number_in) rfl
  have c_number_in := ok_number_in (P := P) (base := base) T F_number_in (He.glo_ok X G (d.fact 3 (f := .glo "number_in") rfl)) c_has_only
  obtain ⟨fd_are_signs, F_are_signs⟩ := d.def_ 4 (d := d_are_signs) rfl
  have c_are_signs := ok_are_signs (P := P) (base := base) T F_are_signs (He.glo_ok X G (d.fact 4 (f := .glo "are_signs") rfl)) c_has_only
  obtain ⟨fd_is_page_text, F_is_page_text⟩ := d.def_ 5 (d := d_is_page_text) rfl
  have c_is_page_text := ok_is_page_text (P := P) (base := base) T F_is_page_text (He.glo_ok X G (d.fact 5 (f := .glo "is_page_text") rfl)) c_has_only
  obtain ⟨fd_law_of, F_law_of⟩ := d.def_ 15 (d := d_law_of) rfl
  have c_law_of := ok_law_of (P := P) (base := base) T F_law_of (He.glo_ok X G (d.fact 15 (f := .glo "_law_of") rfl)) c_law_take
  obtain ⟨fd_law_map_sheet, F_law_map_sheet⟩ := d.def_ 20 (d := d_law_map_sheet) rfl
  have c_law_map_sheet := ok_law_map_sheet (P := P) (base := base) T F_law_map_sheet (He.glo_ok X G (d.fact 20 (f := .glo "_law_map_sheet") rfl)) c_law_map_number c_law_map_is_key c_law_map_is_value
  obtain ⟨fd_is_key, F_is_key⟩ := d.def_ 6 (d := d_is_key) rfl
  have c_is_key := ok_is_key (P := P) (base := base) T F_is_key (He.glo_ok X G (d.fact 6 (f := .glo "is_key") rfl)) c_are_signs
  obtain ⟨fd_is_value, F_is_value⟩ := d.def_ 7 (d := d_is_value) rfl
  have c_is_value := ok_is_value (P := P) (base := base) T F_is_value (He.glo_ok X G (d.fact 7 (f := .glo "is_value") rfl)) c_are_signs
  obtain ⟨fd_is_child, F_is_child⟩ := d.def_ 8 (d := d_is_child) rfl
  have c_is_child := ok_is_child (P := P) (base := base) T F_is_child (He.glo_ok X G (d.fact 8 (f := .glo "is_child") rfl)) c_is_from
  obtain ⟨fd_law_map_key_drawn, F_law_map_key_drawn⟩ := d.def_ 21 (d := d_law_map_key_drawn) rfl
  have c_law_map_key_drawn := ok_law_map_key_drawn (P := P) (base := base) T F_law_map_key_drawn (He.glo_ok X G (d.fact 21 (f := .glo "_law_map_key_drawn") rfl)) c_law_take c_law_of
  obtain ⟨fd_law_map_value_drawn, F_law_map_value_drawn⟩ := d.def_ 22 (d := d_law_map_value_drawn) rfl
  have c_law_map_value_drawn := ok_law_map_value_drawn (P := P) (base := base) T F_law_map_value_drawn (He.glo_ok X G (d.fact 22 (f := .glo "_law_map_value_drawn") rfl)) c_law_of c_law_take
  obtain ⟨fd_law_read, F_law_read⟩ := d.def_ 25 (d := d_law_read) rfl
  have c_law_read := ok_law_read (P := P) (base := base) T F_law_read (He.glo_ok X G (d.fact 25 (f := .glo "_law_read") rfl)) c_law_map_sheet
  obtain ⟨fd_law_near, F_law_near⟩ := d.def_ 26 (d := d_law_near) rfl
  have c_law_near := ok_law_near (P := P) (base := base) T F_law_near (He.glo_ok X G (d.fact 26 (f := .glo "_law_near") rfl)) c_law_take c_law_of
  obtain ⟨fd_is_sheet, F_is_sheet⟩ := d.def_ 9 (d := d_is_sheet) rfl
  have c_is_sheet := ok_is_sheet (P := P) (base := base) T F_is_sheet (He.glo_ok X G (d.fact 9 (f := .glo "is_sheet") rfl)) c_is_key c_is_value c_is_child
  obtain ⟨fd_law_sheet, F_law_sheet⟩ := d.def_ 23 (d := d_law_sheet) rfl
  have c_law_sheet := ok_law_sheet (P := P) (base := base) T F_law_sheet (He.glo_ok X G (d.fact 23 (f := .glo "_law_sheet") rfl)) c_law_of c_law_take c_law_map_key_drawn c_law_map_value_drawn
  obtain ⟨fd_sheet_of, F_sheet_of⟩ := d.def_ 10 (d := d_sheet_of) rfl
  have c_sheet_of := ok_sheet_of (P := P) (base := base) T F_sheet_of (He.glo_ok X G (d.fact 10 (f := .glo "sheet_of") rfl)) c_is_sheet c_number_in
  obtain ⟨fd_written, F_written⟩ := d.def_ 12 (d := d_written) rfl
  obtain ⟨c_written, k_written⟩ := ok_written (P := P) (base := base) T F_written (He.glo_ok X G (d.fact 12 (f := .glo "written") rfl)) c_is_sheet c_is_from
  obtain ⟨fd_sheet_in, F_sheet_in⟩ := d.def_ 11 (d := d_sheet_in) rfl
  have c_sheet_in := ok_sheet_in (P := P) (base := base) T F_sheet_in (He.glo_ok X G (d.fact 11 (f := .glo "sheet_in") rfl)) c_sheet_of c_is_page_text
  obtain ⟨fd_law_right, F_law_right⟩ := d.def_ 27 (d := d_law_right) rfl
  have c_law_right := ok_law_right (P := P) (base := base) T F_law_right (He.glo_ok X G (d.fact 27 (f := .glo "_law_right") rfl)) c_law_sheet c_law_text c_written c_law_near c_sheet_in c_law_take c_law_read k_written
  obtain ⟨fd_law, F_law⟩ := d.def_ 28 (d := d_law) rfl
  have c_law := ok_law (P := P) (base := base) T F_law (He.glo_ok X G (d.fact 28 (f := .glo "law") rfl)) c_law_right c_law_pot c_law_cells
  exact c_law
end
end W15
open PySem PySem.W PySem.Calls PyProof.Rows
theorem PySem.Challenge.cw_worneven_k15_whole_sheets_and_page_texts_holds : PySem.Challenge.rw_worneven_k15_whole_sheets_and_page_texts.Holds := by
  w_on; o_law
  refine HandSHeadRun.head_any (r := OpenLaw.row PySem.Challenge.rw_worneven_k15_whole_sheets_and_page_texts) (q := view (OpenLaw.row PySem.Challenge.rw_worneven_k15_whole_sheets_and_page_texts).prog [41]) (H := W15.hk) (ob := W15.ob) (M := 6000) (loose := W15.loose1) (d := HandSHeadRun.topDef (OpenLaw.row PySem.Challenge.rw_worneven_k15_whole_sheets_and_page_texts).prog 41) (kwd := []) W15.ob_eq
    (by kernel_rfl) (fun s => by kernel_rfl) W15.run (by kernel_rfl) (by kernel_rfl) (by kernel_rfl) (by rfl) (by first | assumption | decide +kernel) (by decide +kernel) ⟨rfl, rfl, rfl, rfl, rfl, by decide +kernel⟩ ?hw ?hc
  case hw => w_witness2
  case hc =>
    refine WR.walk_g (l := PySem.Challenge.rw_worneven_k15_whole_sheets_and_page_texts) (n := 63) (k := 8) rfl (by decide) (by kernel_rfl) ⟨rfl, by decide, by decide⟩ ?F
    intro w mg h Y G
    obtain ⟨K, KX, c⟩ := Y
    exact ⟨K, W15.sp_law K, KX, fun H a ns hl _ hS => ⟨a, ns, rfl, hS, fun _ => rfl⟩, fun base _ _ => W15.facts KX G c base⟩
