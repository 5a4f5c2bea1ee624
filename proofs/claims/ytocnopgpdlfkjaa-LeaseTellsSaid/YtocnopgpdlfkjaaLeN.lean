/- Leases: are rows the same; whose they are (the reference). -/
import Derived.Test.YtocnopgpdlfkjaaLeL
import Derived.BigQuiet
import Derived.Deep.RegionHeld3
namespace Go.Proofs.Ytocnopgpdlfkjaa.Ls
open Go.RowKit Go.Proofs.Ytocnopgpdlfkjaa Go.Sort
set_option linter.unusedVariables false

theorem le_eq {x y : Le} (h : x.c = y.c ∧ x.i = y.i ∧ x.k = y.k ∧ x.f = y.f ∧ x.t = y.t ∧ x.u = y.u ∧ x.e = y.e) : x = y := by
  cases x; cases y
  simp only at h
  obtain ⟨rfl, rfl, rfl, rfl, rfl, rfl, rfl⟩ := h
  rfl
theorem get_eq {β : Type} {xs ys : List β} (h : xs.length = ys.length) (h2 : ∀ j, j < xs.length → xs[j]? = ys[j]?) : xs = ys := by
  apply List.ext_getElem?
  intro j
  by_cases hj : j < xs.length
  · exact h2 j hj
  · rw [List.getElem?_eq_none (by omega), List.getElem?_eq_none (by omega)]
def SameR (w : World) (l k : List Le) (n : Nat) (i : Value) (wr : World) : Prop := ∃ j : Nat, i = .int .i64 j ∧ j ≤ n ∧ Hid (∀ s, s < j → l[s]? = k[s]?) ∧ Ext w wr

set_option maxRecDepth 100000 in
set_option maxHeartbeats 4000000 in
theorem same_v (u v : Value) (l k : List Le) (w : World) (hu : LLe.Sl w u l) (hv : LLe.Sl w v k) : Calls Try.prog 15 #[u, v] w fun e w' => e = .returned (.bool (decide (l = k))) ∧ Ext w w' := by
  obtain ⟨p, n, c, rfl, hl, _, _, _⟩ := hu
  obtain ⟨q, m, d, rfl, hk, _, _, _⟩ := hv
  have HP := Lib.hid hl
  have HQ := Lib.hid hk
  have hn := hl.2.1
  have hm := hk.2.1
  clear hl hk
  by_cases hnm : n = m
  · subst hnm
    have hb : ((n : Int) != (n : Int)) = false := by simp
    go_enter Try.func15, Try.ntmps15
    go_wp2
    go_loopw [5] (fun i wr => SameR w l k n i wr) (fun i _ => n - (intOf i).toNat)
    case atStart => exact ⟨0, rfl, by omega, Lib.hid (by intro j hj; omega), Ext.refl _⟩
    case round =>
      obtain ⟨j, rfl, hj, HE, hx⟩ := hrel
      by_cases hlt : j < n
      · have hlt' : (j : Int) < (n : Int) := by omega
        have hlt0 : (0 : Int) ≤ (j : Int) := by omega
        obtain ⟨x, gx⟩ := get_of l j (by rw [HP.out.1]; exact hlt)
        obtain ⟨y, gy⟩ := get_of k j (by rw [HQ.out.1]; exact hlt)
        obtain ⟨b, off, rfl, _, x0, x1, x2, x3, x4, x5, x6⟩ := le_at (HP.out.ext hx) gx
        obtain ⟨b2, off2, rfl, _, y0, y1, y2, y3, y4, y5, y6⟩ := le_at (HQ.out.ext hx) gy
        have GX := Lib.hid gx
        have GY := Lib.hid gy
        clear gx gy
        by_cases hc : x.c = y.c
        · have ec : (x.c == y.c) = true := by simp [hc]
          have Hc := Lib.hid hc
          clear hc
          by_cases hi : x.i = y.i
          · have ei : (x.i == y.i) = true := by simp [hi]
            have Hi := Lib.hid hi
            clear hi
            by_cases hk : x.k = y.k
            · have ek : (x.k == y.k) = true := by simp [hk]
              have Hk := Lib.hid hk
              clear hk
              by_cases hf : x.f = y.f
              · have ef : (x.f == y.f) = true := by simp [hf]
                have Hf := Lib.hid hf
                clear hf
                by_cases ht : x.t = y.t
                · have et : (x.t == y.t) = true := by simp [ht]
                  have Ht := Lib.hid ht
                  clear ht
                  by_cases hu : x.u = y.u
                  · have eu : (x.u == y.u) = true := by simp [hu]
                    have Hu := Lib.hid hu
                    clear hu
                    by_cases he : x.e = y.e
                    · have ee : (x.e == y.e) = true := by simp [he]
                      have He := Lib.hid he
                      clear he
                      go_wp2
                      go_quiet (fail)
                      go_wp2
                      go_roundw
                      case rel => exact ⟨j + 1, by go_num, by omega, Lib.hid (fun s hs => by
                        by_cases e : s = j
                        · subst e; rw [GX.out, GY.out, le_eq ⟨Hc.out, Hi.out, Hk.out, Hf.out, Ht.out, Hu.out, He.out⟩]
                        · exact HE.out s (by omega)), Ext.drewN hx _⟩
                      case measure => simp [intOf]; omega
                    · have ee : (x.e == y.e) = false := by simp [he]
                      have He := Lib.hid he
                      clear he
                      go_wp2
                      go_quiet (fail)
                      go_wp2
                      go_ret
                      exact ⟨ret_bool (decide_eq_false (fun h => He.out (by have h1 := GX.out; rw [h, GY.out] at h1; injection h1 with h1; rw [h1]))).symm, Ext.drewN hx _⟩
                  · have eu : (x.u == y.u) = false := by simp [hu]
                    have Hu := Lib.hid hu
                    clear hu
                    go_wp2
                    go_quiet (fail)
                    go_wp2
                    go_ret
                    exact ⟨ret_bool (decide_eq_false (fun h => Hu.out (by have h1 := GX.out; rw [h, GY.out] at h1; injection h1 with h1; rw [h1]))).symm, Ext.drewN hx _⟩
                · have et : (x.t == y.t) = false := by simp [ht]
                  have Ht := Lib.hid ht
                  clear ht
                  go_wp2
                  go_quiet (fail)
                  go_wp2
                  go_ret
                  exact ⟨ret_bool (decide_eq_false (fun h => Ht.out (by have h1 := GX.out; rw [h, GY.out] at h1; injection h1 with h1; rw [h1]))).symm, Ext.drewN hx _⟩
              · have ef : (x.f == y.f) = false := by simp [hf]
                have Hf := Lib.hid hf
                clear hf
                go_wp2
                go_quiet (fail)
                go_wp2
                go_ret
                exact ⟨ret_bool (decide_eq_false (fun h => Hf.out (by have h1 := GX.out; rw [h, GY.out] at h1; injection h1 with h1; rw [h1]))).symm, Ext.drewN hx _⟩
            · have ek : (x.k == y.k) = false := by simp [hk]
              have Hk := Lib.hid hk
              clear hk
              go_wp2
              go_quiet (fail)
              go_wp2
              go_ret
              exact ⟨ret_bool (decide_eq_false (fun h => Hk.out (by have h1 := GX.out; rw [h, GY.out] at h1; injection h1 with h1; rw [h1]))).symm, Ext.drewN hx _⟩
          · have ei : (x.i == y.i) = false := by simp [hi]
            have Hi := Lib.hid hi
            clear hi
            go_wp2
            go_quiet (fail)
            go_wp2
            go_ret
            exact ⟨ret_bool (decide_eq_false (fun h => Hi.out (by have h1 := GX.out; rw [h, GY.out] at h1; injection h1 with h1; rw [h1]))).symm, Ext.drewN hx _⟩
        · have ec : (x.c == y.c) = false := by simp [hc]
          have Hc := Lib.hid hc
          clear hc
          go_wp2
          go_quiet (fail)
          go_wp2
          go_ret
          exact ⟨ret_bool (decide_eq_false (fun h => Hc.out (by have h1 := GX.out; rw [h, GY.out] at h1; injection h1 with h1; rw [h1]))).symm, Ext.drewN hx _⟩
      · obtain rfl : j = n := by omega
        go_wp2
        go_ret
        exact ⟨ret_bool (decide_eq_true (get_eq (by rw [HP.out.1, HQ.out.1]) (fun s hs => HE.out s (by rw [HP.out.1] at hs; exact hs)))).symm, hx⟩
  · have hb : ((n : Int) != (m : Int)) = true := by simp; omega
    go_enter Try.func15, Try.ntmps15
    go_wp2
    go_ret
    exact ⟨ret_bool (decide_eq_false (fun h => hnm (by rw [← HP.out.1, ← HQ.out.1, h]))).symm, Ext.refl _⟩

/-! ### whose -/
def isW (l : List Le) (q : Le) (c : Nat) : Bool := l.any fun x => decide (x.c = (c : Int)) && clashRB x q
def whoseL (l : List Le) (q : Le) : Nat → List Int
  | 0 => []
  | c + 1 => whoseL l q c ++ (if isW l q c then [(c : Int)] else [])
theorem whose_len (l : List Le) (q : Le) : ∀ c, (whoseL l q c).length ≤ c
  | 0 => Nat.le_refl _
  | c + 1 => by
    have := whose_len l q c
    unfold whoseL
    split <;> simp <;> omega
theorem whose_mem (l : List Le) (q : Le) : ∀ (c : Nat) (y : Int), y ∈ whoseL l q c ↔ ∃ j : Nat, j < c ∧ y = (j : Int) ∧ isW l q j = true
  | 0, y => by simp [whoseL]
  | c + 1, y => by
    unfold whoseL
    rw [List.mem_append, whose_mem l q c y]
    constructor
    · rintro (⟨j, h1, h2⟩ | h)
      · exact ⟨j, by omega, h2⟩
      · split at h
        · rename_i hc; exact ⟨c, by omega, by simpa using h, hc⟩
        · simp at h
    · rintro ⟨j, h1, h2, h3⟩
      by_cases e : j = c
      · subst e; rw [if_pos h3]; exact .inr (by simp [h2])
      · exact .inl ⟨j, by omega, h2, h3⟩
theorem whose_up (l : List Le) (q : Le) : ∀ c, (whoseL l q c).Pairwise (· < ·)
  | 0 => List.Pairwise.nil
  | c + 1 => by
    unfold whoseL
    refine List.pairwise_append.2 ⟨whose_up l q c, by split <;> simp, fun x hx y hy => ?_⟩
    obtain ⟨j, h1, rfl, _⟩ := (whose_mem l q c x).1 hx
    split at hy
    · obtain rfl := List.mem_singleton.1 hy; omega
    · simp at hy
theorem up_eq : ∀ {a b : List Int}, a.Pairwise (· < ·) → b.Pairwise (· < ·) → (∀ x, x ∈ a ↔ x ∈ b) → a = b
  | [], [], _, _, _ => rfl
  | [], y :: b, _, _, h => absurd ((h y).2 (by simp)) (by simp)
  | x :: a, [], _, _, h => absurd ((h x).1 (by simp)) (by simp)
  | x :: a, y :: b, ha, hb, h => by
    have ha' := List.pairwise_cons.1 ha
    have hb' := List.pairwise_cons.1 hb
    have e : x = y := by
      rcases List.mem_cons.1 ((h x).1 (by simp)) with e | e
      · exact e
      · rcases List.mem_cons.1 ((h y).2 (by simp)) with e2 | e2
        · exact e2.symm
        · have h1 := hb'.1 x e
          have h2 := ha'.1 y e2
          omega
    subst e
    rw [up_eq ha'.2 hb'.2 fun z => ?_]
    constructor
    · intro hz
      rcases List.mem_cons.1 ((h z).1 (by simp [hz])) with e2 | e2
      · have := ha'.1 z hz; omega
      · exact e2
    · intro hz
      rcases List.mem_cons.1 ((h z).2 (by simp [hz])) with e2 | e2
      · have := hb'.1 z hz; omega
      · exact e2
theorem whose_is {L : List Le} {q : Le} {K : List Int} (hL : ∀ x ∈ L, oneB x = true) (hq : oneB q = true) (hK : Rising (cls (againstL L q)) K) : K = whoseL L q 16 := by
  refine up_eq hK.1 (whose_up L q 16) fun y => ?_
  rw [hK.2.1 y, whose_mem]
  unfold cls againstL isW
  simp only [List.mem_map, List.mem_filter, List.any_eq_true, Bool.and_eq_true, decide_eq_true_eq]
  constructor
  · rintro ⟨x, ⟨hx, hc⟩, rfl⟩
    have h1 := of_decide_eq_true (hL x hx)
    exact ⟨x.c.toNat, by omega, by omega, x, hx, by omega, by rw [clashR_of (hL x hx) hq]; exact hc⟩
  · rintro ⟨j, hj, rfl, x, hx, hc, hr⟩
    exact ⟨x, ⟨hx, by rw [← clashR_of (hL x hx) hq]; exact hr⟩, hc⟩
theorem whose_none {L : List Le} {q : Le} (hL : ∀ x ∈ L, oneB x = true) (hq : oneB q = true) (h : againstL L q = []) : whoseL L q 16 = [] :=
  (whose_is hL hq ⟨List.Pairwise.nil, by simp [cls, h], by simp⟩).symm

def W1 (w : World) (l : List Le) (q : Le) (v i : Value) (wr : World) : Prop := ∃ k : Nat, i = .int .i64 k ∧ k ≤ 16 ∧ (Lay.int .i64).Own wr (w.heap.size + 1) 3 v (whoseL l q k) ∧ Ext (w.alloc (.cells #[.int .i64 q.c, .int .i64 q.i, .int .i64 q.k, .int .i64 q.f, .int .i64 q.t, .int .i64 q.u, .int .i64 q.e] 26)) wr
def W2 (w : World) (l : List Le) (q : Le) (k n : Nat) (b i : Value) (wr : World) : Prop := ∃ (j : Nat) (o : Bool), i = .int .i64 j ∧ j ≤ n ∧ b = .bool o ∧ Hid (o = isW (l.take j) q k) ∧ Ext w wr
theorem isW_snoc (l : List Le) (q : Le) (k j : Nat) (x : Le) (h : l[j]? = some x) : isW (l.take (j + 1)) q k = (isW (l.take j) q k || (decide (x.c = (k : Int)) && clashRB x q)) := by
  unfold isW; rw [List.take_add_one, h]; simp
set_option maxRecDepth 100000 in
set_option maxHeartbeats 4000000 in
theorem whose_v (u : Value) (l : List Le) (q : Le) (w : World) (hu : LLe.Sl w u l) : Calls Try.prog 27 #[u, .agg #[.int .i64 q.c, .int .i64 q.i, .int .i64 q.k, .int .i64 q.f, .int .i64 q.t, .int .i64 q.u, .int .i64 q.e]] w fun e w' => (∃ v, e = .returned v ∧ (Lay.int .i64).Sl w' v (whoseL l q 16)) ∧ Ext w w' := by
  obtain ⟨i0, hi0, hzi0, hzi1, hzi2⟩ := info_parts info_int
  obtain ⟨p, n, c, rfl, hr, _, _, _⟩ := hu
  have HP := Lib.hid hr
  have hn63 := hr.2.1
  clear hr
  go_enter Try.func27, Try.ntmps27
  go_wp2
  go_loopw [5, 6] (fun v i wr => W1 w l q v i wr) (fun _ i _ => 16 - (intOf i).toNat)
  case atStart => exact ⟨0, rfl, by omega, by
    have h := (Lay.plainR_int .i64).plain.own_lit (w.alloc (.cells #[.int .i64 q.c, .int .i64 q.i, .int .i64 q.k, .int .i64 q.f, .int .i64 q.t, .int .i64 q.u, .int .i64 q.e] 26)) #[] 3 (w.heap.size + 1) 0 [] (by simp) rfl rfl (by decide)
    rw [show (w.alloc (.cells #[.int .i64 q.c, .int .i64 q.i, .int .i64 q.k, .int .i64 q.f, .int .i64 q.t, .int .i64 q.u, .int .i64 q.e] 26)).heap.size = w.heap.size + 1 from by simp] at h
    exact h, Ext.alloc _ _⟩
  case round =>
    obtain ⟨k, rfl, hk, hown, hx⟩ := hrel
    have HO := Lib.hid hown
    have HX := Lib.hid hx
    clear hown hx
    by_cases hlt : k < 16
    · have hlt' : (k : Int) < 16 := by omega
      go_wp2
      go_loopw [7, 8] (fun b i wr2 => W2 wr l q k n b i wr2) (fun _ i _ => n - (intOf i).toNat)
      case atStart => exact ⟨0, false, rfl, by omega, rfl, Lib.hid (by simp [isW]), Ext.refl _⟩
      case round =>
        obtain ⟨i, o, rfl, hi, rfl, HB, hx⟩ := hrel
        by_cases him : i < n
        · obtain ⟨x, gx⟩ := get_of l i (by rw [HP.out.1]; exact him)
          have HWX := Lib.hid (Ext.trans HX.out hx)
          obtain ⟨b, off, rfl, _, c0, c1, c2, c3, c4, c5, c6⟩ := le_at (HP.out.ext (Ext.trans (Ext.alloc _ _) HWX.out)) gx
          obtain ⟨k0, k1, k2, k3, k4, k5, k6⟩ := box_cells w wr q _ HWX.out
          have HN := Lib.hid (isW_snoc l q k i x gx)
          have h1 : (i : Int) < (n : Int) := by omega
          have h0 : (0 : Int) ≤ (i : Int) := by omega
          have HXX := Lib.hid hx
          clear gx hx
          cases o
          · by_cases hc : x.c = (k : Int)
            · have hcb : (x.c == (k : Int)) = true := by simp [hc]
              have HC := Lib.hid hc
              obtain ⟨r, hr⟩ : ∃ r, clashRB x q = r := ⟨_, rfl⟩
              have HR := Lib.hid hr
              have HSS : Hid (∀ w', Ext wr w' → (w'.cell? ⟨b, off + i * 7, none⟩ = some (.int .i64 x.c) ∧ w'.cell? ⟨b, off + i * 7 + 1, none⟩ = some (.int .i64 x.i) ∧ w'.cell? ⟨b, off + i * 7 + 2, none⟩ = some (.int .i64 x.k) ∧ w'.cell? ⟨b, off + i * 7 + 3, none⟩ = some (.int .i64 x.f) ∧ w'.cell? ⟨b, off + i * 7 + 4, none⟩ = some (.int .i64 x.t) ∧ w'.cell? ⟨b, off + i * 7 + 5, none⟩ = some (.int .i64 x.u) ∧ w'.cell? ⟨b, off + i * 7 + 6, none⟩ = some (.int .i64 x.e)) ∧ w'.cell? ⟨w.heap.size, 0, none⟩ = some (.int .i64 q.c) ∧ w'.cell? ⟨w.heap.size, 1, none⟩ = some (.int .i64 q.i) ∧ w'.cell? ⟨w.heap.size, 2, none⟩ = some (.int .i64 q.k) ∧ w'.cell? ⟨w.heap.size, 3, none⟩ = some (.int .i64 q.f) ∧ w'.cell? ⟨w.heap.size, 4, none⟩ = some (.int .i64 q.t) ∧ w'.cell? ⟨w.heap.size, 5, none⟩ = some (.int .i64 q.u) ∧ w'.cell? ⟨w.heap.size, 6, none⟩ = some (.int .i64 q.e)) := Lib.hid (fun w' h => ⟨⟨h.cell c0, h.cell c1, h.cell c2, h.cell c3, h.cell c4, h.cell c5, h.cell c6⟩, h.cell k0, h.cell k1, h.cell k2, h.cell k3, h.cell k4, h.cell k5, h.cell k6⟩)
              clear hc hr c0 c1 c2 c3 c4 c5 c6 k0 k1 k2 k3 k4 k5 k6
              go_wp2
              have hxx : Ext wr wr.drew := Ext.drew (Ext.refl _)
              go_region_held3 (fun w' => (w'.cell? ⟨b, off + i * 7, none⟩ = some (.int .i64 x.c) ∧ w'.cell? ⟨b, off + i * 7 + 1, none⟩ = some (.int .i64 x.i) ∧ w'.cell? ⟨b, off + i * 7 + 2, none⟩ = some (.int .i64 x.k) ∧ w'.cell? ⟨b, off + i * 7 + 3, none⟩ = some (.int .i64 x.f) ∧ w'.cell? ⟨b, off + i * 7 + 4, none⟩ = some (.int .i64 x.t) ∧ w'.cell? ⟨b, off + i * 7 + 5, none⟩ = some (.int .i64 x.u) ∧ w'.cell? ⟨b, off + i * 7 + 6, none⟩ = some (.int .i64 x.e)) ∧ w'.cell? ⟨w.heap.size, 0, none⟩ = some (.int .i64 q.c) ∧ w'.cell? ⟨w.heap.size, 1, none⟩ = some (.int .i64 q.i) ∧ w'.cell? ⟨w.heap.size, 2, none⟩ = some (.int .i64 q.k) ∧ w'.cell? ⟨w.heap.size, 3, none⟩ = some (.int .i64 q.f) ∧ w'.cell? ⟨w.heap.size, 4, none⟩ = some (.int .i64 q.t) ∧ w'.cell? ⟨w.heap.size, 5, none⟩ = some (.int .i64 q.u) ∧ w'.cell? ⟨w.heap.size, 6, none⟩ = some (.int .i64 q.e)) ((refine HSS.out _ ?_; first | (with_reducible exact hxx))) ((go_at_call 25; refine (rclash_any x q _).mono ?_; rintro e w7 ⟨rfl, hx7⟩; rw [HR.out]; replace hxx := Ext.trans hxx hx7; clear hx7))
              have HX7 := Lib.hid (Ext.trans HXX.out hxx)
              clear hxx
              cases r
              · go_wp2
                go_roundw
                case rel => exact ⟨i + 1, false, by go_num, by omega, rfl, Lib.hid (by rw [HN.out, ← HB.out, HR.out]; simp), HX7.out⟩
                case measure => simp [intOf]; omega
              · go_wp2
                go_roundw
                case rel => exact ⟨i + 1, true, by go_num, by omega, rfl, Lib.hid (by rw [HN.out, ← HB.out, HR.out, decide_eq_true HC.out]; rfl), HX7.out⟩
                case measure => simp [intOf]; omega
            · have hcb : (x.c == (k : Int)) = false := by simp [hc]
              have HC := Lib.hid hc
              clear hc
              go_wp2
              go_quiet (fail)
              go_wp2
              go_roundw
              case rel => exact ⟨i + 1, false, by go_num, by omega, rfl, Lib.hid (by rw [HN.out, ← HB.out, decide_eq_false HC.out]; rfl), Ext.drewN HXX.out _⟩
              case measure => simp [intOf]; omega
          · go_wp2
            go_quiet (fail)
            go_wp2
            go_roundw
            case rel => exact ⟨i + 1, true, by go_num, by omega, rfl, Lib.hid (by rw [HN.out, ← HB.out]; rfl), Ext.drewN HXX.out _⟩
            case measure => simp [intOf]; omega
        · obtain rfl : i = n := by omega
          have HB1 : Hid (o = isW l q k) := Lib.hid (by rw [HB.out, List.take_of_length_le (by rw [HP.out.1]; omega)])
          have HO2 := Lib.hid (HO.out.ext hx)
          have HX2 := Lib.hid (Ext.trans HX.out hx)
          have HLN : Hid ((whoseL l q k).length ≤ 16) := Lib.hid (Nat.le_trans (whose_len l q k) hk)
          have HM63 : Hid ((whoseL l q k).length + 1 ≤ maxLen) := Lib.hid (by have := HLN.out; unfold maxLen; omega)
          have HMB : Hid (((whoseL l q k).length + 1) * 8 ≤ 140737488355328) := Lib.hid (by have := HLN.out; omega)
          have HKW : Hid ((Lit.int .i64 (k : Int)).wf = true) := Lib.hid (by simp [Lit.wf, IntKind.min, IntKind.max, IntKind.signed, IntKind.bits]; omega)
          clear hx HO HB
          cases o
          · have HWS : Hid (whoseL l q (k + 1) = whoseL l q k) := Lib.hid (by rw [whoseL, ← HB1.out]; simp)
            go_wp2
            go_roundw
            case rel => exact ⟨k + 1, by go_num, by omega, by rw [HWS.out]; exact HO2.out, HX2.out⟩
            case measure => simp [intOf]; omega
          · have HWS : Hid (whoseL l q (k + 1) = whoseL l q k ++ [(k : Int)]) := Lib.hid (by rw [whoseL, ← HB1.out]; simp)
            have HSZ : Hid (w.heap.size + 1 ≤ (wr.alloc (.cells #[.int .i64 (k : Int)] 3)).heap.size) := Lib.hid (by have h1 := HX2.out.size; simp at h1 ⊢; omega)
            go_wp2_with (at_builtin; refine Lay.wpList_append (E := Lay.int .i64) rfl (.tmp 39) (.tmp 41) 30 rfl (w.heap.size + 1) 3 i0 (.int .i64 0) 8 Try.underlying30 hi0 hzi0 hzi1 hzi2 rfl _ (whoseL l q k) rfl (HO2.out.ext (Ext.alloc _ _)) (some ⟨wr.heap.size, 0, none⟩) 1 1 ([(k : Int)]) rfl (fun _ => ⟨_, _, rfl⟩) (Nat.le_refl _) ((Lay.plainR_int _).plain.lit (Ext.refl _) (Lay.All.single ⟨rfl, HKW.out⟩) rfl rfl (by decide)) HM63.out HMB.out HSZ.out ?_; intro v2 w2 hown2 hg2; have X3 := Lib.hid ((HO2.out.ext (Ext.alloc _ _)).below (Ext.trans HX2.out (Ext.alloc _ _)) (by simp) hg2); rw [← HWS.out] at hown2; have HO3 := Lib.hid hown2; clear hown2 hg2)
            go_roundw
            case rel => exact ⟨k + 1, by go_num, by omega, HO3.out, X3.out⟩
            case measure => simp [intOf]; omega
    · obtain rfl : k = 16 := by omega
      go_wp2
      go_ret
      exact ⟨⟨_, rfl, HO.out.sl⟩, Ext.trans (Ext.alloc _ _) HX.out⟩
end Go.Proofs.Ytocnopgpdlfkjaa.Ls
