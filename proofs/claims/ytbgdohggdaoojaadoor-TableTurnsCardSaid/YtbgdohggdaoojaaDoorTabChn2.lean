/-
  TABLE, the program: what a chain answers.
-/
import Derived.Test.YtbgdohggdaoojaaDoorTabChn
namespace Go.Proofs.YtbgdohggdaoojaaDoor.Table
open Go.RowKit Base
set_option maxHeartbeats 4000000 in
set_option maxRecDepth 100000 in
theorem pCE (cb : Nat) (Ts : List (List KV)) (k : ByteArray) (w : World) (h : ChainAt w cb Ts) (hn : Ts.length ≤ 1000000) (hG : ∀ T ∈ Ts, Good T) (hs : k.size ≤ 140737488355328) :
    Calls Tryd.prog 13 #[.pointer (some ⟨cb, 0, none⟩), .string k] w (AnsEnd (firstA (fun T => exactA T k.data.toList) Ts) w) := by
  have HC : Hid (Calls Tryd.prog 37 #[.pointer (some ⟨cb, 0, none⟩), .func (.func 38) #[] #[.pointer (some ⟨w.heap.size, 0, none⟩)]] (w.alloc (.cells #[.string k] 9)) (AnsEnd (firstA (fun T => exactA T k.data.toList) Ts) (w.alloc (.cells #[.string k] 9)))) := by
    refine pFirstE cb w.heap.size _ Ts _ (h.on (Below.alloc1 w _)) hn ?_
    intro w1 g i T hb hT htc
    have hg := hG T (List.mem_of_getElem? hT)
    have hask := pAsksO htc hg.rise hg.short (by have := hg.few; omega)
    refine pCloE g i w.heap.size k w1 _ (cell_of_row w1 w.heap.size 0 _ _ _ ((hb.block w.heap.size (by simp)).trans (MapKept.heap_alloc w (.cells #[.string k] 9)).1)) ?_
    intro w2 hb2
    exact hask w2 k hb2 (by omega)
  have HB0 : Hid (Below w.heap.size w (w.alloc (.cells #[.string k] 9))) := Below.alloc1 w _
  generalize (firstA (fun T => exactA T k.data.toList) Ts) = fin at HC
  clear h hn hG hs
  go_enter Tryd.func13, Tryd.ntmps13
  go_wp2_with (first | (go_at_call 37; refine HC.out.mono ?_; rintro e w1 ⟨rfl, hb1⟩; refine Hid.out ?_) | fail)
  refine Lib.hid ?_
  have HB1 := Lib.hid (HB0.out.trans (hb1.mono HB0.out.size))
  clear hb1
  go_wp2
  go_ret2
  exact ⟨rfl, HB1.out⟩
set_option maxHeartbeats 4000000 in
set_option maxRecDepth 100000 in
theorem pCA (cb : Nat) (Ts : List (List KV)) (k l : ByteArray) (w : World) (h : ChainAt w cb Ts) (hn : Ts.length ≤ 1000000) (hG : ∀ T ∈ Ts, Good T) (hs : k.size ≤ 140737488355328) (hs2 : l.size ≤ 140737488355328) :
    Calls Tryd.prog 15 #[.pointer (some ⟨cb, 0, none⟩), .string k, .string l] w (AnsEnd (firstA (fun T => addrA T k.data.toList l.data.toList) Ts) w) := by
  have HC : Hid (Calls Tryd.prog 37 #[.pointer (some ⟨cb, 0, none⟩), .func (.func 39) #[] #[.pointer (some ⟨w.heap.size, 0, none⟩), .pointer (some ⟨w.heap.size + 1, 0, none⟩)]] ((w.alloc (.cells #[.string k] 9)).alloc (.cells #[.string l] 9)) (AnsEnd (firstA (fun T => addrA T k.data.toList l.data.toList) Ts) ((w.alloc (.cells #[.string k] 9)).alloc (.cells #[.string l] 9)))) := by
    refine pFirstA cb w.heap.size (w.heap.size + 1) _ Ts _ (h.on ((Below.alloc1 w _).alloc (by simp) _)) hn ?_
    intro w1 g i T hb hT htc
    have hg := hG T (List.mem_of_getElem? hT)
    have hask := pAsksO htc hg.rise hg.short (by have := hg.few; omega)
    refine pCloA g i w.heap.size (w.heap.size + 1) k l w1 _ (cell_of_row w1 w.heap.size 0 _ _ _ ((hb.block w.heap.size (by simp; omega)).trans (heap_two0 w _ _))) (cell_of_row w1 (w.heap.size + 1) 0 _ _ _ ((hb.block (w.heap.size + 1) (by simp)).trans (heap_two1 w _ _))) ?_
    intro w2 hb2
    exact pAddressO g i T k l w2 (fun w3 key hb3 hs3 => hask w3 key (hb2.trans (hb3.mono hb2.size)) hs3) hs hs2
  have HB0 : Hid (Below w.heap.size w ((w.alloc (.cells #[.string k] 9)).alloc (.cells #[.string l] 9))) := (Below.alloc1 w _).alloc (by simp) _
  generalize (firstA (fun T => addrA T k.data.toList l.data.toList) Ts) = fin at HC
  clear h hn hG hs hs2
  go_enter Tryd.func15, Tryd.ntmps15
  go_wp2_with (first | (go_at_call 37; refine HC.out.mono ?_; rintro e w1 ⟨rfl, hb1⟩; refine Hid.out ?_) | fail)
  refine Lib.hid ?_
  have HB1 := Lib.hid (HB0.out.trans (hb1.mono HB0.out.size))
  clear hb1
  go_wp2
  go_ret2
  exact ⟨rfl, HB1.out⟩
set_option maxHeartbeats 4000000 in
set_option maxRecDepth 100000 in
theorem pCD (cb : Nat) (Ts : List (List KV)) (k : ByteArray) (w : World) (h : ChainAt w cb Ts) (hn : Ts.length ≤ 1000000) (hG : ∀ T ∈ Ts, Good T) (hs : k.size ≤ 140737488355328) :
    Calls Tryd.prog 16 #[.pointer (some ⟨cb, 0, none⟩), .string k] w (AnsEnd (firstA (fun T => domA T k.data.toList) Ts) w) := by
  have HC : Hid (Calls Tryd.prog 37 #[.pointer (some ⟨cb, 0, none⟩), .func (.func 40) #[] #[.pointer (some ⟨w.heap.size, 0, none⟩)]] (w.alloc (.cells #[.string k] 9)) (AnsEnd (firstA (fun T => domA T k.data.toList) Ts) (w.alloc (.cells #[.string k] 9)))) := by
    refine pFirstD cb w.heap.size _ Ts _ (h.on (Below.alloc1 w _)) hn ?_
    intro w1 g i T hb hT htc
    have hg := hG T (List.mem_of_getElem? hT)
    have hask := pAsksO htc hg.rise hg.short (by have := hg.few; omega)
    refine pCloD g i w.heap.size k w1 _ (cell_of_row w1 w.heap.size 0 _ _ _ ((hb.block w.heap.size (by simp)).trans (MapKept.heap_alloc w (.cells #[.string k] 9)).1)) ?_
    intro w2 hb2
    exact pDomainO g i T k w2 (fun w3 key hb3 hs3 => hask w3 key (hb2.trans (hb3.mono hb2.size)) hs3) hs
  have HB0 : Hid (Below w.heap.size w (w.alloc (.cells #[.string k] 9))) := Below.alloc1 w _
  generalize (firstA (fun T => domA T k.data.toList) Ts) = fin at HC
  clear h hn hG hs
  go_enter Tryd.func16, Tryd.ntmps16
  go_wp2_with (first | (go_at_call 37; refine HC.out.mono ?_; rintro e w1 ⟨rfl, hb1⟩; refine Hid.out ?_) | fail)
  refine Lib.hid ?_
  have HB1 := Lib.hid (HB0.out.trans (hb1.mono HB0.out.size))
  clear hb1
  go_wp2
  go_ret2
  exact ⟨rfl, HB1.out⟩
end Go.Proofs.YtbgdohggdaoojaaDoor.Table
