/- Rows of numbers, cell by cell; bytes as texts. -/
import Derived.Test.YtifbmkcfgpfefaaRep
import Derived.Laws.BytesArg
namespace Go.Proofs.Ytifbmkcfgpfefaa
open Go.RowKit
set_option linter.unusedVariables false

theorem Lay.All.ints {k : IntKind} {w : World} : ∀ {l : List Int} {vs : List Value}, (Lay.int k).All w vs l → vs = l.map (Value.int k) ∧ ∀ x ∈ l, (Lit.int k x).wf = true
  | [], vs, h => by obtain rfl : vs = [] := h; simp
  | x :: l, vs, h => by
    obtain ⟨cs, vs', rfl, ⟨rfl, hw⟩, h2⟩ := h
    obtain ⟨rfl, h3⟩ := h2.ints
    exact ⟨by simp, by simpa using ⟨hw, h3⟩⟩
theorem Lay.all_ints {k : IntKind} (w : World) : ∀ (l : List Int), (∀ x ∈ l, (Lit.int k x).wf = true) → (Lay.int k).All w (l.map (Value.int k)) l
  | [], h => rfl
  | x :: l, h => ⟨[.int k x], l.map (Value.int k), by simp, ⟨rfl, h x (by simp)⟩, Lay.all_ints w l fun y hy => h y (by simp [hy])⟩
theorem Lay.Row.ints {k : IntKind} {w : World} {p : Option Addr} {n : Nat} {l : List Int} (h : (Lay.int k).Row w p n l) : RowI k w p n l ∧ ∀ x ∈ l, (Lit.int k x).wf = true := by
  obtain ⟨h1, h2, vs, h3, h4⟩ := h
  obtain ⟨rfl, hw⟩ := h3.ints
  refine ⟨⟨h1, h2, fun hn => ?_⟩, hw⟩
  obtain ⟨b, off, hp, hc⟩ := h4 hn
  refine ⟨b, off, hp, fun j hj => hc j _ ?_⟩
  rw [List.getElem?_map, List.getElem?_eq_getElem (by omega)]
  simp [at0, List.getD_eq_getElem?_getD, List.getElem?_eq_getElem (show j < l.length by omega)]
theorem Lay.row_ints {k : IntKind} {w : World} {p : Option Addr} {n : Nat} {l : List Int} (h : RowI k w p n l) (hw : ∀ x ∈ l, (Lit.int k x).wf = true) : (Lay.int k).Row w p n l := by
  obtain ⟨h1, h2, h3⟩ := h
  refine ⟨h1, h2, _, Lay.all_ints w l hw, fun hn => ?_⟩
  obtain ⟨b, off, hp, hc⟩ := h3 hn
  refine ⟨b, off, hp, fun j u hu => ?_⟩
  rw [List.getElem?_map, Option.map_eq_some_iff] at hu
  obtain ⟨x, hx, rfl⟩ := hu
  have hj := (List.getElem?_eq_some_iff.1 hx).1
  rw [hc j (by omega)]
  simp [at0, List.getD_eq_getElem?_getD, hx]
theorem Lay.Row.wf {k : IntKind} {w : World} {p : Option Addr} {n : Nat} {l : List Int} (h : (Lay.int k).Row w p n l) : ∀ x ∈ l, (Lit.int k x).wf = true := h.ints.2

/-- bytes as a text -/
theorem conv_bytes {w : World} {p : Option Addr} {n : Nat} {l : List Int} (h : (Lay.int .u8).Row w p n l) (src e dst : TypeId) (hs : Try.prog.underlying src = some (.slice e)) (he : Try.prog.underlying e = some (.int .u8)) (hd : Try.prog.underlying dst = some .string) (c : Nat) :
    (convert src dst (.slice p n c)).run Try.prog w = .ok (.string (strOfNums l)) w := by
  obtain ⟨hi, _⟩ := h.ints
  by_cases hn : 0 < n
  · obtain ⟨b, off, rfl, hc⟩ := hi.2.2 hn
    exact run_convert_bytes_arg w src e hs he b off n c l hi.1 hc dst hd
  · obtain rfl : n = 0 := by omega
    obtain rfl : l = [] := List.eq_nil_of_length_eq_zero hi.1
    rw [run_convert_bytes_string w src dst e _ _ c hs he hd]
    cases p with
    | none => simp [Conv.bytesToString]; rfl
    | some a =>
      rw [run_bytesToString w _ 0 c [] (by simpa using run_loadCells_list (P := Try.prog) w a [] (by simp))]
      rfl
theorem byte_ofNat {x y : Int} (hx : (Lit.int .u8 x).wf = true) (hy : (Lit.int .u8 y).wf = true) (h : UInt8.ofNat x.toNat = UInt8.ofNat y.toNat) : x = y := by
  have h1 := bd_u8 hx
  have h2 := bd_u8 hy
  have h3 := congrArg UInt8.toNat h
  simp only [UInt8.toNat_ofNat'] at h3
  rw [Nat.mod_eq_of_lt (by omega), Nat.mod_eq_of_lt (by omega)] at h3
  omega
theorem strOfNums_eq {l m : List Int} (hl : ∀ x ∈ l, (Lit.int .u8 x).wf = true) (hm : ∀ x ∈ m, (Lit.int .u8 x).wf = true) (h : strOfNums l = strOfNums m) : l = m := by
  have h1 : (l.map fun n => UInt8.ofNat n.toNat) = m.map fun n => UInt8.ofNat n.toNat := by rw [← strOfNums_data, ← strOfNums_data, h]
  clear h
  induction l generalizing m with
  | nil => cases m with
    | nil => rfl
    | cons y m => simp at h1
  | cons x l ih => cases m with
    | nil => simp at h1
    | cons y m =>
      simp only [List.map_cons, List.cons.injEq] at h1
      rw [byte_ofNat (hl x (by simp)) (hm y (by simp)) h1.1, ih (fun z hz => hl z (by simp [hz])) (fun z hz => hm z (by simp [hz])) h1.2]
theorem toList_data (s : ByteArray) : s.toList = s.data.toList := Go.ByteArray.toList_eq s
theorem strOfNums_beq {l m : List Int} (hl : ∀ x ∈ l, (Lit.int .u8 x).wf = true) (hm : ∀ x ∈ m, (Lit.int .u8 x).wf = true) : ((strOfNums l).toList == (strOfNums m).toList) = decide (l = m) := by
  by_cases h : l = m
  · subst h; simp
  · rw [decide_eq_false h]
    refine beq_eq_false_iff_ne.2 fun e => h (strOfNums_eq hl hm ?_)
    rw [toList_data, toList_data] at e
    exact ByteArray.ext (Array.toList_inj.1 e)
end Go.Proofs.Ytifbmkcfgpfefaa
