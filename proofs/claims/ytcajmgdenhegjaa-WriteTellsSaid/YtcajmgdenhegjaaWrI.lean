/- Written bytes: the reference's See. -/
import Derived.Test.YtcajmgdenhegjaaWrH
namespace Go.Proofs.Ytcajmgdenhegjaa.Wr
open Go.RowKit Go.Proofs.Ytcajmgdenhegjaa
set_option linter.unusedVariables false

theorem see_succ {l : List Pc} {j : Nat} {x : Pc} (h : l[j]? = some x) (n : Int) (F : List Int) : seeL (l.take (j + 1)) n F = if x.i = n then layP (seeL (l.take j) n F) x else seeL (l.take j) n F := by
  rw [List.take_add_one, h]
  show seeL (l.take j ++ [x]) n F = _
  rw [see_append, see_one]
theorem see_len (n : Int) (F : List Int) : ∀ (l : List Pc), AllR l → (seeL l n F).length ≤ max F.length 4096 := by
  intro l
  induction l generalizing F with
  | nil => intro _; rw [see_nil]; omega
  | cons x l ih =>
    intro h
    have e : x :: l = [x] ++ l := rfl
    rw [e, see_append, see_one]
    have hl : AllR l := fun y hy => h y (by simp [hy])
    split
    · have h1 := ih (layP F x) hl
      have h2 : (layP F x).length = max F.length (x.f.toNat + x.d.length) := layL_length _ _ _
      have h3 := h x (by simp)
      have h4 := h3.2.2.2
      have h5 := h3.2.1
      unfold Pc.e at h4
      omega
    · exact ih F hl
def RSeeR (w0 : World) (l : List Pc) (m : Int) (F : List Int) (n : Nat) (o i : Value) (wr : World) : Prop :=
  ∃ j : Nat, i = .int .i64 j ∧ j ≤ n ∧ (Lay.int .u8).Sl wr o (seeL (l.take j) m F) ∧ Ext w0 wr
set_option maxRecDepth 100000 in
set_option maxHeartbeats 2000000 in
theorem rsee_v (u : Value) (F : List Int) (l : List Pc) (m : Int) (p : Option Addr) (n c : Nat) (w : World) (hu : (Lay.int .u8).Sl w u F) (hl : LPc.Row w p n l) (hr : AllR l) (hF : F.length ≤ 10000) :
    Calls Try.prog 19 #[.slice p n c, .int .i64 m, u] w fun e w' => (∃ v, e = .returned v ∧ (Lay.int .u8).Sl w' v (seeL l m F)) ∧ Ext w w' := by
  have HU := Lib.hid hu
  have HP := Lib.hid hl
  have HF := Lib.hid hF
  have HR := Lib.hid hr
  have hn := hl.2.1
  clear hu hl hF hr
  go_enter Try.func19, Try.ntmps19
  go_wp2
  go_loopw [7, 8] (fun o i wr => RSeeR w l m F n o i wr) (fun o i _ => n - (intOf i).toNat)
  case atStart => exact ⟨0, rfl, by omega, HU.out, Ext.refl _⟩
  case round =>
    obtain ⟨j, rfl, hj, ho, hx⟩ := hrel
    have HO := Lib.hid ho
    have HX := Lib.hid hx
    by_cases hlt : j < n
    · have hlt' : (j : Int) < (n : Int) := by omega
      have hlt0 : (0 : Int) ≤ (j : Int) := by omega
      obtain ⟨x, gx⟩ : ∃ x, l[j]? = some x := ⟨_, List.getElem?_eq_getElem (by rw [HP.out.1]; exact hlt)⟩
      obtain ⟨b, off, p1, n1, c1, rfl, x0, x1, x2, tx⟩ := pc_at (HP.out.ext hx) gx
      have hxr := HR.out x (List.mem_of_getElem? gx)
      obtain ⟨k, hk⟩ : ∃ k : Nat, x.f = (k : Int) := ⟨x.f.toNat, by have := hxr.2.1; omega⟩
      have GX := Lib.hid gx
      have HT := Lib.hid tx.row
      have hkn : Hid (k + n1 ≤ 4096) := Lib.hid (by have h1 := hxr.2.2.2; have h2 := tx.row.1; unfold Pc.e at h1; omega)
      have hLY : ∀ G, Hid (rlaidL G k x.d = layP G x) := fun G => Lib.hid (by rw [rlaid_ne _ _ hxr.2.2.1]; unfold layP; rw [hk]; rfl)
      rw [hk] at x1
      by_cases hi : x.i = m
      · have hb : (x.i == m) = true := by simp [hi]
        have HI := Lib.hid hi
        obtain ⟨G, hG⟩ : ∃ G, seeL (l.take j) m F = G := ⟨_, rfl⟩
        have HG := Lib.hid hG
        have hGL : G.length ≤ 100000 := by
          have := see_len m F (l.take j) (fun y hy => HR.out y (List.mem_of_mem_take hy))
          rw [hG] at this
          have := HF.out
          omega
        rw [hG] at HO
        have HC := Lib.hid (fun (W : World) (hW : Ext wr W) => rlaid_v u7 G x.d k p1 n1 c1 W (HO.out.ext hW) (HT.out.ext hW) hGL (fun _ => by have := hkn.out; omega) (by have := hkn.out; omega))
        have HS : Hid (∀ w', Ext wr w' → w'.cell? ⟨b, off + j * 3 + 1, none⟩ = some (.int .i64 k) ∧ w'.cell? ⟨b, off + j * 3 + 2, none⟩ = some (.slice p1 n1 c1)) := Lib.hid fun w' h => ⟨h.cell x1, h.cell x2⟩
        have hxx : Ext wr wr.drew := Ext.drew (Ext.refl _)
        clear ho hx gx tx hxr hk hG hGL hi
        go_wp2
        go_region_held3 (fun w' => w'.cell? ⟨b, off + j * 3 + 1, none⟩ = some (.int .i64 k) ∧ w'.cell? ⟨b, off + j * 3 + 2, none⟩ = some (.slice p1 n1 c1)) ((refine HS.out _ ?_; first | (with_reducible exact hxx))) ((go_at_call 32; refine (HC.out _ hxx).mono ?_; rintro e w2 ⟨⟨v, rfl, hv⟩, hx2⟩; have HV := Lib.hid hv.sl; clear hv; replace hxx := Ext.trans hxx hx2; clear hx2))
        go_wp2
        go_roundw
        case rel => exact ⟨j + 1, by go_num, by omega, by rw [see_succ GX.out, if_pos HI.out, HG.out, ← (hLY G).out]; exact HV.out, Ext.trans HX.out hxx⟩
        case measure => simp [intOf]; omega
      · have hb : (x.i == m) = false := by simp [hi]
        have HI := Lib.hid hi
        clear ho gx tx hxr hk hi
        go_wp2
        go_roundw
        case rel => exact ⟨j + 1, by go_num, by omega, by rw [see_succ GX.out, if_neg HI.out]; exact HO.out, HX.out⟩
        case measure => simp [intOf]; omega
    · obtain rfl : j = n := by omega
      clear ho hx
      go_wp2
      go_ret
      exact ⟨⟨_, rfl, by have := HO.out; rw [List.take_of_length_le (by rw [HP.out.1]; omega)] at this; exact this⟩, HX.out⟩
end Go.Proofs.Ytcajmgdenhegjaa.Wr
