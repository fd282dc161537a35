/-
  HEADER, HeaderAdds: the words of a text.
-/
import Derived.Test.YtnogpoojhhmadaaDoorHdrJoin
namespace Go.Proofs.YtnogpoojhhmadaaDoor.Header
open Go.RowKit Base
theorem tail_len : ∀ (ws : List (List UInt8)), (tailW ws).length = sumW ws
  | [] => rfl
  | x :: r => by
    have h := tail_len r
    simp only [tailW, List.length_cons, List.length_append, sumW, List.map_cons, List.sum_cons] at h ⊢
    omega
theorem join_len (ws : List (List UInt8)) : (joinW ws).length ≤ sumW ws := by
  cases ws with
  | nil => exact Nat.le_refl _
  | cons x r =>
    have h := tail_len r
    simp only [joinW, List.length_append, sumW, List.map_cons, List.sum_cons] at h ⊢
    omega
/-- What is still to come. -/
def restW (i : Nat) (ws : List (List UInt8)) : List UInt8 := if i = 0 then joinW ws else tailW ws
set_option maxHeartbeats 8000000 in
set_option maxRecDepth 100000 in
theorem pWords (s : ByteArray) (w : World) (hs : s.size ≤ 1000000000) : Calls Tryd.prog 20 #[.string s] w fun e w' => e = .returned (S (joinW (wordsOf s.data.toList))) ∧ Below w.heap.size w w' := by
  have HW := Lib.hid (rWords s w (by omega))
  unfold WordsEnd at HW
  obtain ⟨ws, hws⟩ : ∃ ws, ws = wordsOf s.data.toList := ⟨_, rfl⟩
  rw [← hws] at HW ⊢
  have hsum : sumW ws ≤ s.size + 1 := by rw [hws]; have := words_sum s.data.toList []; rw [str_len] at this; exact this
  have hcn := count_len ws
  obtain ⟨fin, hfin⟩ : ∃ fin, fin = joinW ws := ⟨_, rfl⟩
  have HFL : Hid (fin.length ≤ sumW ws) := by rw [hfin]; exact join_len ws
  have HF0 : Hid ([] ++ restW 0 (ws.drop 0) = fin) := by show _ = _; rw [hfin]; rfl
  rw [← hfin]
  clear hws hfin
  go_enter Tryd.func20, Tryd.ntmps20
  go_wp2_with (first | (go_at_call 39; refine HW.out.mono ?_; rintro ee w1 ⟨v, rfl, own1, hb1⟩; refine Hid.out ?_) | fail)
  refine Lib.hid ?_
  obtain ⟨va, vc, hvf, hvc⟩ := own1.form
  subst hvf
  have HO1 := Lib.hid own1
  have HB1 := Lib.hid hb1
  clear own1 hb1 HW
  go_wp2
  go_loop [4, 5] (fun ov iv => ∃ (i : Nat) (o : ByteArray), i ≤ ws.length ∧ iv = .int .i64 (i : Int) ∧ ov = .string o ∧ Hid (o.data.toList ++ restW i (ws.drop i) = fin)) (fun _ iv => ws.length - (intOf iv).toNat)
  case atStart => exact ⟨0, ⟨#[]⟩, by omega, rfl, rfl, HF0⟩
  case round =>
    clear HF0
    obtain ⟨i, o, hi, rfl, rfl, HF⟩ := hrel
    have i0 : (0 : Int) ≤ (i : Int) := by omega
    have hol : o.size ≤ s.size + 1 := by
      have h1 := congrArg List.length HF.out
      rw [List.length_append, str_len] at h1
      have := HFL.out; omega
    by_cases hlt : i < ws.length
    · obtain ⟨x, hx⟩ : ∃ x, ws[i]? = some x := ⟨_, List.getElem?_eq_getElem hlt⟩
      have hxl := word_len (List.mem_of_getElem? hx)
      obtain ⟨b, hva, hcell⟩ := HO1.out.cell hx
      have i1 : (i : Int) < (ws.length : Int) := by omega
      have heq := HF.out
      rw [drop_consW hx] at heq
      subst hva
      clear hx HF
      have hxs : (⟨x.toArray⟩ : ByteArray).size = x.length := by show x.toArray.size = _; simp
      obtain ⟨xb, hxb⟩ : ∃ xb : ByteArray, xb = ⟨x.toArray⟩ := ⟨_, rfl⟩
      have hxd : xb.data.toList = x := by rw [hxb]
      rw [← hxb] at hxs
      have hcell2 : w1.cell? ⟨b, i, none⟩ = some (.string xb) := by rw [hcell, hxb]
      have HXD := Lib.hid hxd
      clear hcell hxb hxd
      by_cases h0 : i = 0
      · have i2 : ¬ (0 : Int) < (i : Int) := by omega
        have HF2 : Hid ((o ++ xb).data.toList ++ restW (i + 1) (ws.drop (i + 1)) = fin) := by
          show _ = _
          rw [← heq, h0]
          simp [restW, joinW, HXD.out]
        clear heq h0
        go_wp2
        go_round
        case rel => exact ⟨i + 1, o ++ xb, by omega, by go_num, rfl, HF2⟩
        case measure => simp [intOf]; omega
      · have i2 : (0 : Int) < (i : Int) := by omega
        have HF2 : Hid ((o ++ ⟨#[32]⟩ ++ xb).data.toList ++ restW (i + 1) (ws.drop (i + 1)) = fin) := by
          show _ = _
          rw [← heq]
          simp [restW, h0, tailW, HXD.out]
        have ho1 : (o ++ (⟨#[32]⟩ : ByteArray)).size = o.size + 1 := by rw [ByteArray.size_append]; rfl
        clear heq h0
        go_wp2
        go_round
        case rel => exact ⟨i + 1, o ++ ⟨#[32]⟩ ++ xb, by omega, by go_num, rfl, HF2⟩
        case measure => simp [intOf]; omega
    · have i1 : ¬ (i : Int) < (ws.length : Int) := by omega
      have HE : Hid (Value.string o = S fin) := by
        show _ = _
        have := HF.out
        rw [List.drop_eq_nil_of_le (by omega)] at this
        have h2 : restW i [] = [] := by unfold restW; split <;> rfl
        rw [h2, List.append_nil] at this
        rw [← this]
      clear HF
      go_wp2
      go_ret
      exact ⟨by rw [← HE.out]; rfl, HB1.out⟩
end Go.Proofs.YtnogpoojhhmadaaDoor.Header
