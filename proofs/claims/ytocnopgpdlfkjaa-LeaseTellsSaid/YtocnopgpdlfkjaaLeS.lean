/- Leases: Has (the reference). -/
import Derived.Test.YtocnopgpdlfkjaaLeR
namespace Go.Proofs.Ytocnopgpdlfkjaa.Ls
open Go.RowKit Go.Proofs.Ytocnopgpdlfkjaa Go.Sort
set_option linter.unusedVariables false

def inP (c i k : Int) (y : Le) : Prop := y.c = c ∧ y.i = i ∧ (y.k = k ∨ y.k = 2)
def Cov (l : List Le) (c i k f a : Int) : Prop := f ≤ a ∧ ∀ x, f ≤ x → x < a → ∃ y ∈ l, inP c i k y ∧ y.f ≤ x ∧ x < y.t
def Dry (l : List Le) (c i k a : Int) (j : Nat) : Prop := ∀ y ∈ l.take j, ¬ (inP c i k y ∧ y.f ≤ a ∧ a < y.t)
theorem Dry.snoc {l : List Le} {c i k a : Int} {j : Nat} {x : Le} (h : Dry l c i k a j) (hx : l[j]? = some x) (hn : ¬ (inP c i k x ∧ x.f ≤ a ∧ a < x.t)) : Dry l c i k a (j + 1) := by
  intro y hy
  rw [List.take_add_one, hx] at hy
  rcases List.mem_append.1 hy with hy | hy
  · exact h y hy
  · simp at hy; subst hy; exact hn
theorem Cov.jump {l : List Le} {c i k f a : Int} {x : Le} (h : Cov l c i k f a) (hx : x ∈ l) (hp : inP c i k x) (h1 : x.f ≤ a) (h2 : a < x.t) : Cov l c i k f x.t := by
  refine ⟨by have := h.1; omega, fun z hz1 hz2 => ?_⟩
  by_cases e : z < a
  · exact h.2 z hz1 e
  · exact ⟨x, hx, hp, by omega, hz2⟩
def cntA (l : List Le) (a : Int) : Nat := (l.filter fun y => decide (a < y.t)).length
theorem cnt_less : ∀ {l : List Le} {a b : Int} {x : Le}, x ∈ l → a < x.t → x.t ≤ b → cntA l b + 1 ≤ cntA l a
  | [], _, _, _, h, _, _ => by simp at h
  | y :: l, a, b, x, h, h1, h2 => by
    have mono : ∀ m : List Le, cntA m b ≤ cntA m a := fun m => by
      unfold cntA
      induction m with
      | nil => exact Nat.le_refl _
      | cons z m ih =>
        by_cases e1 : b < z.t
        · have e2 : a < z.t := by omega
          simp [e1, e2]; exact ih
        · by_cases e2 : a < z.t
          · simp [e1, e2]; omega
          · simp [e1, e2]; exact ih
    by_cases e : x = y
    · subst e
      have hm := mono l
      have e1 : ¬ b < x.t := by omega
      unfold cntA at hm ⊢
      simp [h1, e1]; exact hm
    · have hx : x ∈ l := (List.mem_cons.1 h).resolve_left e
      have ih := cnt_less hx h1 h2
      unfold cntA at ih ⊢
      by_cases e1 : b < y.t
      · have e2 : a < y.t := by omega
        simp [e1, e2]; omega
      · by_cases e2 : a < y.t
        · simp [e1, e2]; omega
        · simp [e1, e2]; omega
def muH (l : List Le) (n : Nat) (a i : Value) : Nat := cntA l (intOf a) * (n + 1) + (n - (intOf i).toNat)
theorem mu_jump {l : List Le} {n j : Nat} {a : Int} {x : Le} (hx : x ∈ l) (h : a < x.t) : cntA l x.t * (n + 1) + n < cntA l a * (n + 1) + (n - j) := by
  have h1 := cnt_less (b := x.t) hx h (Int.le_refl _)
  have h2 := Nat.mul_le_mul_right (n + 1) h1
  rw [Nat.add_mul, Nat.one_mul] at h2
  omega
def HsR (w : World) (l : List Le) (c i k f : Int) (n : Nat) (a ix : Value) (wr : World) : Prop := ∃ (A : Int) (j : Nat), a = .int .i64 A ∧ ix = .int .i64 j ∧ j ≤ n ∧ Hid (Cov l c i k f A) ∧ Hid (Dry l c i k A j) ∧ Ext w wr

set_option maxRecDepth 100000 in
set_option maxHeartbeats 4000000 in
theorem rhas_v (u : Value) (l : List Le) (cc ii kk f t : Int) (b : Bool) (w : World) (hu : LLe.Sl w u l) (hb : b = true ↔ hadP l cc ii kk f t) : Calls Try.prog 22 #[u, .int .i64 cc, .int .i64 ii, .int .i64 kk, .agg #[.int .i64 f, .int .i64 t]] w fun e w' => e = .returned (.bool b) ∧ Ext w w' := by
  obtain ⟨p, n, c, rfl, hr, _, _, _⟩ := hu
  have HP := Lib.hid hr
  have HBB := Lib.hid hb
  have hn63 := hr.2.1
  clear hr hb
  obtain ⟨qs, hqs⟩ : ∃ q, rightSpB f t = q := ⟨_, rfl⟩
  have HQS := Lib.hid hqs
  clear hqs
  go_enter Try.func22, Try.ntmps22
  go_wp2_with fail
  refine (rspan_any f t _).mono ?_
  rintro e w1 ⟨rfl, hx⟩
  rw [HQS.out]
  have b0 : w1.cell? ⟨w.heap.size, 0, none⟩ = some (.int .i64 f) := hx.cell (cell_of_row _ _ 0 _ _ _ (heap_alloc_new w _))
  have b1 : w1.cell? ⟨w.heap.size, 1, none⟩ = some (.int .i64 t) := hx.cell (cell_of_row _ _ 1 _ _ _ (heap_alloc_new w _))
  have HX := Lib.hid (Ext.trans (Ext.alloc _ _) hx)
  have HX0 := Lib.hid hx
  clear hx
  cases qs
  · have HF : Hid (b = false) := Lib.hid (Bool.eq_false_iff.2 fun h => by
      have h1 := (HBB.out.1 h).1
      have h2 := HQS.out
      rw [show rightSpB f t = true from decide_eq_true h1] at h2
      cases h2)
    go_wp2
    go_ret
    exact ⟨ret_bool HF.out.symm, HX.out⟩
  have KEY : kk = 1 ∨ kk = 2 ∨ (kk ≠ 1 ∧ kk ≠ 2) := by omega
  by_cases hkk : kk = 1 ∨ kk = 2
  · have hk1 : (kk != 1) = true ∧ (kk != 2) = false ∨ (kk != 1) = false := by
      rcases hkk with h | h
      · exact .inr (by simp [h])
      · exact .inl (by simp [h])
    have HKK := Lib.hid hkk
    clear hkk KEY
    rcases hk1 with ⟨k1, k2⟩ | k1
    all_goals
      go_wp2
      go_loopw [11, 12] (fun a ix wr => HsR w1 l cc ii kk f n a ix wr) (fun a ix _ => muH l n a ix)
      case atStart => exact ⟨f, 0, rfl, rfl, by omega, Lib.hid ⟨Int.le_refl _, fun x h1 h2 => by omega⟩, Lib.hid (by intro y hy; simp at hy), Ext.refl _⟩
      case round =>
        obtain ⟨A, j, rfl, rfl, hj, HC, HD, hx⟩ := hrel
        by_cases hlt : j < n
        · obtain ⟨x, gx⟩ := get_of l j (by rw [HP.out.1]; exact hlt)
          obtain ⟨b', off, rfl, _, c0, c1, c2, c3, c4, c5, c6⟩ := le_at (HP.out.ext (Ext.trans HX.out hx)) gx
          have GX := Lib.hid gx
          have HXX := Lib.hid hx
          have hlt' : (j : Int) < (n : Int) := by omega
          have hlt0 : (0 : Int) ≤ (j : Int) := by omega
          have HMU := Lib.hid (fun h : A < x.t => mu_jump (n := n) (j := j) (List.mem_of_getElem? gx) h)
          clear gx hx
          by_cases hc : x.c = cc
          · have dc0 : (x.c == cc) = true := by simp [hc]
            have Hc := Lib.hid hc
            clear hc
            by_cases hi : x.i = ii
            · have di0 : (x.i == ii) = true := by simp [hi]
              have Hi := Lib.hid hi
              clear hi
              by_cases hk : x.k = kk
              · have dk0 : (x.k == kk) = true := by simp [hk]
                have Hk := Lib.hid hk
                clear hk
                by_cases hf : x.f ≤ A
                · have df0 : decide (x.f ≤ A) = true := decide_eq_true hf
                  have Hf := Lib.hid hf
                  clear hf
                  by_cases ht : A < x.t
                  · have dt0 : decide (A < x.t) = true := decide_eq_true ht
                    have Ht := Lib.hid ht
                    clear ht
                    have HCJ := Lib.hid (HC.out.jump (List.mem_of_getElem? GX.out) ⟨Hc.out, Hi.out, .inl Hk.out⟩ Hf.out Ht.out)
                    go_wp2
                    go_roundw
                    case rel => exact ⟨x.t, 0, rfl, rfl, by omega, HCJ, Lib.hid (by intro y hy; simp at hy), Ext.trans HXX.out (Ext.alloc _ _)⟩
                    case measure => have h := HMU.out Ht.out; simp only [muH, intOf]; simp; omega
                  · have dt0 : decide (A < x.t) = false := decide_eq_false ht
                    have Ht := Lib.hid ht
                    clear ht
                    have HDS := Lib.hid (HD.out.snoc GX.out (fun h => Ht.out h.2.2))
                    go_wp2
                    go_roundw
                    case rel => exact ⟨A, j + 1, rfl, by go_num, by omega, HC, HDS, Ext.trans HXX.out (Ext.alloc _ _)⟩
                    case measure => simp only [muH, intOf]; simp; omega
                · have df0 : decide (x.f ≤ A) = false := decide_eq_false hf
                  have Hf := Lib.hid hf
                  clear hf
                  have HDS := Lib.hid (HD.out.snoc GX.out (fun h => Hf.out h.2.1))
                  go_wp2
                  go_roundw
                  case rel => exact ⟨A, j + 1, rfl, by go_num, by omega, HC, HDS, Ext.trans HXX.out (Ext.alloc _ _)⟩
                  case measure => simp only [muH, intOf]; simp; omega
              · have dk0 : (x.k == kk) = false := by simp [hk]
                have Hk := Lib.hid hk
                clear hk
                by_cases hl : x.k = 2
                · have dl0 : (x.k == 2) = true := by simp [hl]
                  have Hl := Lib.hid hl
                  clear hl
                  by_cases hf : x.f ≤ A
                  · have df0 : decide (x.f ≤ A) = true := decide_eq_true hf
                    have Hf := Lib.hid hf
                    clear hf
                    by_cases ht : A < x.t
                    · have dt0 : decide (A < x.t) = true := decide_eq_true ht
                      have Ht := Lib.hid ht
                      clear ht
                      have HCJ := Lib.hid (HC.out.jump (List.mem_of_getElem? GX.out) ⟨Hc.out, Hi.out, .inr Hl.out⟩ Hf.out Ht.out)
                      go_wp2
                      go_roundw
                      case rel => exact ⟨x.t, 0, rfl, rfl, by omega, HCJ, Lib.hid (by intro y hy; simp at hy), Ext.trans HXX.out (Ext.alloc _ _)⟩
                      case measure => have h := HMU.out Ht.out; simp only [muH, intOf]; simp; omega
                    · have dt0 : decide (A < x.t) = false := decide_eq_false ht
                      have Ht := Lib.hid ht
                      clear ht
                      have HDS := Lib.hid (HD.out.snoc GX.out (fun h => Ht.out h.2.2))
                      go_wp2
                      go_roundw
                      case rel => exact ⟨A, j + 1, rfl, by go_num, by omega, HC, HDS, Ext.trans HXX.out (Ext.alloc _ _)⟩
                      case measure => simp only [muH, intOf]; simp; omega
                  · have df0 : decide (x.f ≤ A) = false := decide_eq_false hf
                    have Hf := Lib.hid hf
                    clear hf
                    have HDS := Lib.hid (HD.out.snoc GX.out (fun h => Hf.out h.2.1))
                    go_wp2
                    go_roundw
                    case rel => exact ⟨A, j + 1, rfl, by go_num, by omega, HC, HDS, Ext.trans HXX.out (Ext.alloc _ _)⟩
                    case measure => simp only [muH, intOf]; simp; omega
                · have dl0 : (x.k == 2) = false := by simp [hl]
                  have Hl := Lib.hid hl
                  clear hl
                  have HDS := Lib.hid (HD.out.snoc GX.out (fun h => h.1.2.2.elim Hk.out Hl.out))
                  go_wp2
                  go_roundw
                  case rel => exact ⟨A, j + 1, rfl, by go_num, by omega, HC, HDS, Ext.trans HXX.out (Ext.alloc _ _)⟩
                  case measure => simp only [muH, intOf]; simp; omega
            · have di0 : (x.i == ii) = false := by simp [hi]
              have Hi := Lib.hid hi
              clear hi
              have HDS := Lib.hid (HD.out.snoc GX.out (fun h => Hi.out h.1.2.1))
              go_wp2
              go_roundw
              case rel => exact ⟨A, j + 1, rfl, by go_num, by omega, HC, HDS, Ext.trans HXX.out (Ext.alloc _ _)⟩
              case measure => simp only [muH, intOf]; simp; omega
          · have dc0 : (x.c == cc) = false := by simp [hc]
            have Hc := Lib.hid hc
            clear hc
            have HDS := Lib.hid (HD.out.snoc GX.out (fun h => Hc.out h.1.1))
            go_wp2
            go_roundw
            case rel => exact ⟨A, j + 1, rfl, by go_num, by omega, HC, HDS, Ext.trans HXX.out (Ext.alloc _ _)⟩
            case measure => simp only [muH, intOf]; simp; omega
        · obtain rfl : j = n := by omega
          have b1' := hx.cell b1
          have HXX := Lib.hid (Ext.trans HX.out hx)
          have HE : Hid (b = decide (t ≤ A)) := Lib.hid (by
            rw [Bool.eq_iff_iff, HBB.out, decide_eq_true_iff]
            constructor
            · rintro ⟨_, _, h⟩
              refine Int.not_lt.1 fun hA => ?_
              obtain ⟨y, hy, h1, h2⟩ := h A HC.out.1 hA
              exact HD.out y (by rw [List.take_of_length_le (by rw [HP.out.1]; omega)]; exact hy) ⟨h1, h2⟩
            · intro hA
              refine ⟨of_decide_eq_true HQS.out, HKK.out, fun x h1 h2 => ?_⟩
              obtain ⟨y, hy, h3, h4⟩ := HC.out.2 x h1 (by omega)
              exact ⟨y, hy, h3, h4⟩)
          clear hx
          go_wp2
          go_ret
          exact ⟨ret_bool HE.out.symm, HXX.out⟩
  · have hk1 : (kk != 1) = true := by simp; omega
    have hk2 : (kk != 2) = true := by simp; omega
    have HF : Hid (b = false) := Lib.hid (Bool.eq_false_iff.2 fun h => hkk (HBB.out.1 h).2.1)
    clear hkk KEY
    go_wp2
    go_ret
    exact ⟨ret_bool HF.out.symm, HX.out⟩
end Go.Proofs.Ytocnopgpdlfkjaa.Ls
