/- Messages: the reference's To and Cut. -/
import Derived.Test.YtifbmkcfgpfefaaWiB
import Derived.Deep.RegionHeld3
namespace Go.Proofs.Ytifbmkcfgpfefaa
open Go.RowKit
set_option linter.unusedVariables false
namespace Lay
variable {α : Type} {E : Lay α} {P : Program}
/-- an append, anywhere: and the row's block is the old one, or a new one -/
theorem step_append2 {w : World} {ops : Array Oper} {o : Oper} {a : Act} {K : Act → World → Prop} {Q : Exit → Act → World → Prop} {X : Prop} (hgd : Region.wanted o (yielded ops a.tmps) = true) (s x : Operand) (t : TypeId)
    (ho : o.op = .call { callee := .builtin .append, args := #[s, x], argTypes := #[t, t] })
    (base : Nat) (e : TypeId) (i : TypeInfo) (z : Value) (bytes : Nat) (ht : P.underlying t = some (.slice e)) (hi : P.info? e = some i) (hz : i.zero = some z)
    (hsize : i.size = E.size) (hby : i.bytes = bytes) (hzs : z.cells.size = E.size)
    (v : Value) (l : List α) (hs : a.eval s = v) (hown : E.Own w base e v l)
    (p : Option Addr) (m c : Nat) (k : List α) (hx : a.eval x = .slice p m c) (hpl : Pl p c) (hmc : m ≤ c) (hr : E.RowK w v.ownBlock p m k)
    (h63 : l.length + m ≤ maxLen) (hbytes : (l.length + m) * bytes ≤ 140737488355328) (hbase : base ≤ w.heap.size)
    (h : ∀ v' w', E.Own w' base e v' (l ++ k) → w.grownBy w' v.ownBlock → (v'.ownBlock = v.ownBlock ∨ v'.ownBlock = some w.heap.size) → K (a.put o.dst v') w') : if Region.wanted o (yielded ops a.tmps) = true then Oper.wp P o a w K Q else X := by
  rw [if_pos hgd]
  obtain ⟨v', w', hrun, h2, h3, h4⟩ := run_append (E := E) (P := P) w t o.type e i z bytes base ht hi hz hsize hby hzs v l hown p m c k hpl hmc hr h63 hbytes hbase
  unfold Oper.wp execOp
  simp only [ho, resolve, invoke, builtin, Sem.run_bind, Sem.run_pure, Result.andThen_ok, List.map_toArray, List.map_cons, List.map_nil, hs, hx, hrun]
  exact h v' w' h2 h3 h4
end Lay
/-- a box apart stays apart -/
theorem ne_append {W : World} {u v : Value} {b : Nat} {o : Obj} (h : W.heap[b]? = some o) (hne : v.ownBlock ≠ some b) (h2 : u.ownBlock = v.ownBlock ∨ u.ownBlock = some W.heap.size) : u.ownBlock ≠ some b := by
  rcases h2 with e | e
  · rw [e]; exact hne
  · rw [e]; intro e2; have := (Array.getElem?_eq_some_iff.1 h).1; simp only [Option.some.injEq] at e2; omega
theorem heap_grown {W W' : World} {v : Value} {b : Nat} {o : Obj} (h : W.heap[b]? = some o) (hg : W.grownBy W' v.ownBlock) (hne : v.ownBlock ≠ some b) : W'.heap[b]? = some o := by
  rw [hg.block b (Array.getElem?_eq_some_iff.1 h).1 (fun e => hne e.symm)]; exact h
namespace Wi
open Go.RowKit Go.Proofs.Ytifbmkcfgpfefaa
/-- a message in a box, as a row of one -/
theorem rowK_box {w0 W : World} {row : Option Nat} {x : Mg} {p : Option Addr} {n c : Nat} {q : Option Addr} {m d : Nat} {b : Nat} {t : TypeId} (h : W.heap[b]? = some (.cells #[.int .i64 x.a, .int .i64 x.b, .int .i64 x.k, .slice p n c, .slice q m d] t (0, 0))) (hne : row ≠ some b)
    (hx : MgC w0 x p n c q m d) (hW : Ext w0 W) (hr : ∀ k, row = some k → w0.heap.size ≤ k) : LMg.RowK W row (some ⟨b, 0, none⟩) 1 [x] :=
  ⟨rfl, by omega, [.int .i64 x.a, .int .i64 x.b, .int .i64 x.k, .slice p n c, .slice q m d], mg_keep hx hW hr, fun _ => ⟨b, 0, rfl, fun j u hu => by
    rw [Nat.zero_add, cell_of_row _ _ _ _ _ _ h]; simpa using hu⟩⟩

/-- the places of those for which f holds -/
def placesN (f : Mg → Bool) (l : List Mg) : List Nat := (l.zipIdx.filter (fun y => f y.1)).map (·.2)
theorem places_snoc (f : Mg → Bool) (l : List Mg) (x : Mg) : placesN f (l ++ [x]) = placesN f l ++ if f x then [l.length] else [] := by
  unfold placesN
  rw [List.zipIdx_append, List.filter_append, List.map_append]
  by_cases h : f x = true <;> simp [h]
theorem places_step {l : List Mg} {j : Nat} {x : Mg} (h : l[j]? = some x) (f : Mg → Bool) : placesN f (l.take (j + 1)) = placesN f (l.take j) ++ if f x then [j] else [] := by
  rw [List.take_add_one, h]
  show placesN f (l.take j ++ [x]) = _
  rw [places_snoc, List.length_take, Nat.min_eq_left (Nat.le_of_lt (List.getElem?_eq_some_iff.1 h).1)]
theorem places_len (f : Mg → Bool) (l : List Mg) : (placesN f l).length ≤ l.length := by
  unfold placesN; rw [List.length_map]; exact Nat.le_trans (List.length_filter_le _ _) (by simp)
def toL (l : List Mg) (m : Int) : List Int := (placesN (fun x => decide (x.b = m)) l).map (fun (k : Nat) => (k : Int))
def cutL (l : List Mg) (s : List Int) : List Mg := l.filter (fun x => inB s x.a == inB s x.b)
theorem to_step {l : List Mg} {j : Nat} {x : Mg} (h : l[j]? = some x) (m : Int) : toL (l.take (j + 1)) m = toL (l.take j) m ++ if x.b = m then [(j : Int)] else [] := by
  unfold toL
  rw [places_step h, List.map_append]
  by_cases hb : x.b = m <;> simp [hb]
theorem to_len (l : List Mg) (m : Int) : (toL l m).length ≤ l.length := by unfold toL; rw [List.length_map]; exact places_len _ _
theorem cut_step {l : List Mg} {j : Nat} {x : Mg} (h : l[j]? = some x) (s : List Int) : cutL (l.take (j + 1)) s = cutL (l.take j) s ++ if (inB s x.a == inB s x.b) = true then [x] else [] := by
  rw [List.take_add_one, h]
  show (l.take j ++ [x]).filter _ = _
  rw [List.filter_append]
  show _ = List.filter _ _ ++ _
  by_cases hb : (inB s x.a == inB s x.b) = true <;> simp [hb]
theorem cut_len (l : List Mg) (s : List Int) : (cutL l s).length ≤ l.length := List.length_filter_le _ _

def RToR (w0 : World) (l : List Mg) (m : Int) (n : Nat) (o i : Value) (wr : World) : Prop :=
  ∃ j : Nat, i = .int .i64 j ∧ j ≤ n ∧ (Lay.int .i64).Own wr w0.heap.size 3 o (toL (l.take j) m) ∧ Ext w0 wr
set_option maxRecDepth 100000 in
set_option maxHeartbeats 4000000 in
theorem rto_v (p : Option Addr) (n c : Nat) (l : List Mg) (m : Int) (w : World) (hl : LMg.Row w p n l) (hb : n ≤ 1000) :
    Calls Try.prog 19 #[.slice p n c, .int .i64 m] w fun e w' => (∃ v, e = .returned v ∧ (Lay.int .i64).Own w' w.heap.size 3 v (toL l m)) ∧ Ext w w' := by
  obtain ⟨i0, hi0, hzi0, hzi1, hzi2⟩ := info_parts info_int
  have HP := Lib.hid hl
  have HNB := Lib.hid hb
  have hn := hl.2.1
  clear hl hb
  go_enter Try.func19, Try.ntmps19
  go_wp2
  go_loopw [5, 6] (fun o i wr => RToR w l m n o i wr) (fun _ i _ => n - (intOf i).toNat)
  case atStart => exact ⟨0, rfl, by omega, Lay.Own.nil _ _ _ _, Ext.refl _⟩
  case round =>
    obtain ⟨j, rfl, hj, ho, hx⟩ := hrel
    have HX := Lib.hid hx
    have HO := Lib.hid ho
    by_cases hlt : j < n
    · have hlt' : (j : Int) < (n : Int) := by omega
      have hlt0 : (0 : Int) ≤ (j : Int) := by omega
      obtain ⟨x, gx⟩ : ∃ x, l[j]? = some x := ⟨_, List.getElem?_eq_getElem (by rw [HP.out.1]; exact hlt)⟩
      obtain ⟨b, off, p1, n1, c1, q1, m1, d1, rfl, x0, x1, x2, x3, x4, tx⟩ := mg_at (HP.out.ext hx) gx
      have GX := Lib.hid gx
      have HLEN : Hid ((toL (l.take j) m).length ≤ 1000) := Lib.hid (Nat.le_trans (to_len _ _) (by rw [List.length_take]; have := HNB.out; omega))
      have hJ : Hid ((Lit.int .i64 (j : Int)).wf = true) := Lib.hid (by simp [Lit.wf, IntKind.min, IntKind.max, IntKind.signed, IntKind.bits]; omega)
      clear gx tx ho hx
      by_cases hi : x.b = m
      · have hb : (x.b == m) = true := by simp [hi]
        have HI := Lib.hid hi
        clear hi
        go_wp2_with (at_builtin; refine Lay.wpList_append (E := Lay.int .i64) rfl (.tmp 20) (.tmp 22) 23 rfl w.heap.size 3 i0 (.int .i64 0) 8 Try.underlying23 hi0 hzi0 hzi1 hzi2 rfl u5 (toL (l.take j) m) rfl (HO.out.ext (Ext.alloc _ _)) (some ⟨wr.heap.size, 0, none⟩) 1 1 [(j : Int)] rfl (fun _ => ⟨_, _, rfl⟩) (Nat.le_refl _) (plain_i64.lit (Ext.refl _) (Lay.All.single ⟨rfl, hJ.out⟩) rfl rfl (by decide)) (by have := HLEN.out; unfold maxLen; omega) (by have := HLEN.out; omega) (by have := HX.out.size; simp; omega) ?_; intro v2 w3 hown2 hg2)
        have X4 := Lib.hid ((HO.out.ext (Ext.alloc _ _)).below (Ext.trans HX.out (Ext.alloc _ _)) (Nat.le_refl _) hg2)
        have HO4 := Lib.hid hown2
        clear hown2 hg2
        go_wp2
        go_roundw
        case rel => exact ⟨j + 1, by go_num, by omega, by rw [to_step GX.out, if_pos HI.out]; exact HO4.out, X4.out⟩
        case measure => simp [intOf]; omega
      · have hb : (x.b == m) = false := by simp [hi]
        have HI := Lib.hid hi
        clear hi
        go_wp2
        go_roundw
        case rel => exact ⟨j + 1, by go_num, by omega, by rw [to_step GX.out, if_neg HI.out, List.append_nil]; exact HO.out, HX.out⟩
        case measure => simp [intOf]; omega
    · obtain rfl : j = n := by omega
      clear ho hx
      go_wp2
      go_ret
      exact ⟨⟨_, rfl, by have := HO.out; rw [List.take_of_length_le (by rw [HP.out.1]; omega)] at this; exact this⟩, HX.out⟩

def RCutR (w0 : World) (l : List Mg) (s : List Int) (n : Nat) (o i : Value) (wr : World) : Prop :=
  ∃ j : Nat, i = .int .i64 j ∧ j ≤ n ∧ LMg.Own wr w0.heap.size 26 o (cutL (l.take j) s) ∧ Ext w0 wr
set_option maxRecDepth 100000 in
set_option maxHeartbeats 4000000 in
theorem rcut_v (p : Option Addr) (n c : Nat) (l : List Mg) (q : Option Addr) (m d : Nat) (s : List Int) (w : World) (hl : LMg.Row w p n l) (hs : (Lay.int .i64).Row w q m s) (hb : n ≤ 1000) :
    Calls Try.prog 21 #[.slice p n c, .slice q m d] w fun e w' => (∃ v, e = .returned v ∧ LMg.Own w' w.heap.size 26 v (cutL l s)) ∧ Ext w w' := by
  obtain ⟨i0, hi0, hzi0, hzi1, hzi2⟩ := info_parts info_mg
  have HP := Lib.hid hl
  have HNB := Lib.hid hb
  have HIN : Hid (∀ W v, Ext w W → Calls Try.prog 23 #[.slice q m d, .int .i64 v] W fun e w' => e = .returned (.bool (inB s v)) ∧ Ext W w') := Lib.hid fun W v hW => (rin_any q m d s v W (hs.ext hW)).mono fun e w' ⟨h1, h2⟩ => ⟨h1, by rw [h2]; exact Ext.refl _⟩
  have hn := hl.2.1
  clear hl hb hs
  go_enter Try.func21, Try.ntmps21
  go_wp2
  go_loopw [5, 6] (fun o i wr => RCutR w l s n o i wr) (fun _ i _ => n - (intOf i).toNat)
  case atStart => exact ⟨0, rfl, by omega, Lay.Own.nil _ _ _ _, Ext.refl _⟩
  case round =>
    obtain ⟨j, rfl, hj, ho, hx⟩ := hrel
    have HX := Lib.hid hx
    have HO := Lib.hid ho
    by_cases hlt : j < n
    · have hlt' : (j : Int) < (n : Int) := by omega
      have hlt0 : (0 : Int) ≤ (j : Int) := by omega
      obtain ⟨x, gx⟩ : ∃ x, l[j]? = some x := ⟨_, List.getElem?_eq_getElem (by rw [HP.out.1]; exact hlt)⟩
      obtain ⟨b, off, p1, n1, c1, q1, m1, d1, rfl, x0, x1, x2, x3, x4, tx⟩ := mg_at HP.out gx
      replace x0 := HX.out.cell x0
      replace x1 := HX.out.cell x1
      replace x2 := HX.out.cell x2
      replace x3 := HX.out.cell x3
      replace x4 := HX.out.cell x4
      have GX := Lib.hid gx
      have HT := Lib.hid tx
      have HLEN : Hid ((cutL (l.take j) s).length ≤ 1000) := Lib.hid (Nat.le_trans (cut_len _ _) (by rw [List.length_take]; have := HNB.out; omega))
      have HCS : Hid (∀ w', Ext wr w' → w'.cell? ⟨b, off + j * 5, none⟩ = some (.int .i64 x.a) ∧ w'.cell? ⟨b, off + j * 5 + 1, none⟩ = some (.int .i64 x.b) ∧ w'.cell? ⟨b, off + j * 5 + 2, none⟩ = some (.int .i64 x.k) ∧ w'.cell? ⟨b, off + j * 5 + 3, none⟩ = some (.slice p1 n1 c1) ∧ w'.cell? ⟨b, off + j * 5 + 4, none⟩ = some (.slice q1 m1 d1)) := Lib.hid fun w' h => ⟨h.cell x0, h.cell x1, h.cell x2, h.cell x3, h.cell x4⟩
      obtain ⟨B1, hB1⟩ : ∃ B, inB s x.a = B := ⟨_, rfl⟩
      obtain ⟨B2, hB2⟩ : ∃ B, inB s x.b = B := ⟨_, rfl⟩
      have HA : Hid (∀ g : Gr wr, Calls Try.prog 23 #[.slice q m d, .int .i64 x.a] g.w fun e w' => e = .returned (.bool B1) ∧ Ext g.w w') := Lib.hid fun g => by rw [← hB1]; exact HIN.out _ _ (Ext.trans HX.out g.h)
      have HB : Hid (∀ g : Gr wr, Calls Try.prog 23 #[.slice q m d, .int .i64 x.b] g.w fun e w' => e = .returned (.bool B2) ∧ Ext g.w w') := Lib.hid fun g => by rw [← hB2]; exact HIN.out _ _ (Ext.trans HX.out g.h)
      have e0 : ∀ g : Gr wr, g.w.cell? ⟨b, off + j * 5, none⟩ = some (.int .i64 x.a) := fun g => g.cell x0
      have e1 : ∀ g : Gr wr, g.w.cell? ⟨b, off + j * 5 + 1, none⟩ = some (.int .i64 x.b) := fun g => g.cell x1
      have hst := cut_step gx s
      rw [hB1, hB2] at hst
      have HST := Lib.hid hst
      clear gx tx ho hx hB1 hB2 hst x0 x1 x2 x3 x4
      by_cases hi : (B1 == B2) = true
      · have HI := Lib.hid hi
        go_wp2
        refine wp_region_grown (Ext.refl wr) (by kernel_rfl) (by kernel_rfl) ?_
        repeat (go_big_quiet_step (first | (go_at_call 23; with_reducible exact Gr.of (HA.out _)) | (go_at_call 23; with_reducible exact Gr.of (HB.out _))))
        refine wpQuiet_nil ?_
        intro gw
        have hxg := gw.h
        clear e0 e1
        generalize gw.w = w4 at hxg ⊢
        obtain ⟨y0, y1, y2, y3, y4⟩ := HCS.out _ hxg
        have HX4 := Lib.hid (Ext.trans HX.out hxg)
        have HXC : Hid (Ext w (w4.alloc (.cells #[.int .i64 x.a, .int .i64 x.b, .int .i64 x.k, .slice p1 n1 c1, .slice q1 m1 d1] 26))) := Lib.hid (Ext.trans HX4.out (Ext.alloc _ _))
        have HOA : Hid (LMg.Own (w4.alloc (.cells #[.int .i64 x.a, .int .i64 x.b, .int .i64 x.k, .slice p1 n1 c1, .slice q1 m1 d1] 26)) w.heap.size 26 u5 (cutL (l.take j) s)) := Lib.hid (HO.out.ext (Ext.trans hxg (Ext.alloc _ _)))
        have HRK : Hid (LMg.RowK (w4.alloc (.cells #[.int .i64 x.a, .int .i64 x.b, .int .i64 x.k, .slice p1 n1 c1, .slice q1 m1 d1] 26)) u5.ownBlock (some ⟨w4.heap.size, 0, none⟩) 1 [x]) := Lib.hid (Lay.RowK.lit (Ext.refl _) (mg_keep HT.out HXC.out (fun k hk => (HOA.out.lt k hk).1)) rfl rfl (by decide))
        clear hxg
        go_wp2_with (at_builtin; refine Lay.wpList_append (E := LMg) rfl (.tmp 28) (.tmp 33) 22 rfl w.heap.size 26 i0 (.agg #[.int .i64 0, .int .i64 0, .int .i64 0, .slice none 0 0, .slice none 0 0]) 72 Try.underlying22 hi0 hzi0 hzi1 hzi2 rfl u5 (cutL (l.take j) s) rfl HOA.out (some ⟨w4.heap.size, 0, none⟩) 1 1 [x] rfl (fun _ => ⟨_, _, rfl⟩) (Nat.le_refl _) HRK.out (by have := HLEN.out; unfold maxLen; omega) (by have := HLEN.out; omega) (by have := HXC.out.size; exact this) ?_; intro v2 w5 hown2 hg2)
        have X5 := Lib.hid (HOA.out.below HXC.out (Nat.le_refl _) hg2)
        have HO5 := Lib.hid hown2
        clear hown2 hg2 y0 y1 y2 y3 y4
        go_wp2
        go_roundw
        case rel => exact ⟨j + 1, by go_num, by omega, by rw [HST.out, if_pos HI.out]; exact HO5.out, X5.out⟩
        case measure => simp [intOf]; omega
      · have hi' : (B1 == B2) = false := by simpa using hi
        have HI := Lib.hid hi
        clear hi
        go_wp2
        refine wp_region_grown (Ext.refl wr) (by kernel_rfl) (by kernel_rfl) ?_
        repeat (go_big_quiet_step (first | (go_at_call 23; with_reducible exact Gr.of (HA.out _)) | (go_at_call 23; with_reducible exact Gr.of (HB.out _))))
        refine wpQuiet_nil ?_
        intro gw
        have hxg := gw.h
        clear e0 e1
        generalize gw.w = w4 at hxg ⊢
        have HX4 := Lib.hid hxg
        clear hxg
        go_wp2
        go_roundw
        case rel => exact ⟨j + 1, by go_num, by omega, by rw [HST.out, if_neg HI.out, List.append_nil]; exact HO.out.ext HX4.out, Ext.trans HX.out HX4.out⟩
        case measure => simp [intOf]; omega
    · obtain rfl : j = n := by omega
      clear ho hx
      go_wp2
      go_ret
      exact ⟨⟨_, rfl, by have := HO.out; rw [List.take_of_length_le (by rw [HP.out.1]; omega)] at this; exact this⟩, HX.out⟩
end Wi
end Go.Proofs.Ytifbmkcfgpfefaa
