/-
  MERGED by mergefill.py: PthOnce, PthOnceB, PthBld, PthTabS.
-/
import Derived.Test.YtnehgbpfgehhiaaGreatDoorPthRepPM
import Derived.Defers
import Derived.Laws.LoneSync
import Derived.Laws.Pointers
import Derived.RegionCalls
import Derived.Deep.WholeRow
/-
  PATH, the program: sync.Once in the run of one goroutine (the library's own text, as the worked example walks it): the lock, the deferred calls.
-/
namespace Go.Proofs.YtnehgbpfgehhiaaGreatDoor.Path
open Go.RowKit Base
theorem rDisable (w : World) : (callFunc 242 #[]).run Tryz.prog w = .ok (.value (.tuple #[])) w := run_call_mark0 Tryz.func242 (by kernel_rfl) (by kernel_rfl) (by kernel_rfl) .disable (by kernel_rfl) w
theorem rEnable (w : World) : (callFunc 244 #[]).run Tryz.prog w = .ok (.value (.tuple #[])) w := run_call_mark0 Tryz.func244 (by kernel_rfl) (by kernel_rfl) (by kernel_rfl) .enable (by kernel_rfl) w
theorem rAcquire (a : Addr) (w : World) : (callFunc 245 #[.pointer (some a)]).run Tryz.prog w = .ok (.value (.tuple #[])) w := run_call_marked Tryz.func245 (by kernel_rfl) (by kernel_rfl) (by kernel_rfl) .acquire (by kernel_rfl) a w
theorem rMerge (a : Addr) (w : World) : (callFunc 247 #[.pointer (some a)]).run Tryz.prog w = .ok (.value (.tuple #[])) w := run_call_marked Tryz.func247 (by kernel_rfl) (by kernel_rfl) (by kernel_rfl) .releaseMerge (by kernel_rfl) a w
set_option maxRecDepth 100000 in
set_option maxHeartbeats 1600000 in
/-- '(*sync/atomic.Bool).Store(true)', entered as a deferred call: the cell holds 1. -/
theorem store_deferred (a : Addr) (x : Value) (u : FrameMode) (w : World) (hc : w.cell? a = some x) (hz : w.frozen? a = false) :
    CallsD Tryz.prog 218 #[.pointer (some a), .bool true] u w fun e u' w' => u' = u ∧ (e = .returned (.tuple #[]) ∧ w' = w.drew.setCell a (.int .u32 1)) := by
  have hc' : w.drew.cell? a = some x := by go_simp
  have hz' : w.drew.frozen? a = false := by go_simp
  have hst := run_call_store (P := Tryz.prog) Tryz.func228 (by kernel_rfl) (by kernel_rfl) (by kernel_rfl) (by kernel_rfl) (k := .u32) (y := 1) hc' hz'
  go_enter_d Tryz.func218, Tryz.ntmps218
  go_wp2
  go_region_calls
  all_goals (go_end0; exact ⟨rfl, rfl⟩)
set_option maxRecDepth 100000 in
set_option maxHeartbeats 1600000 in
/-- '(*sync.Mutex).Unlock', entered as a deferred call, the lock held and nobody waiting: state 0. -/
theorem unlock_deferred (a : Addr) (u : FrameMode) (w : World) (hc : w.cell? a = some (.int .i32 1)) (hz : w.frozen? a = false) :
    CallsD Tryz.prog 217 #[.pointer (some a)] u w fun e u' w' => u' = u ∧ (e = .returned (.tuple #[]) ∧ w' = w.setCell a (.int .i32 0)) := by
  have hd := rDisable
  have he := rEnable
  have hr := rMerge
  have hadd := run_call_add (P := Tryz.prog) Tryz.func248 (by kernel_rfl) (by kernel_rfl) (by kernel_rfl) .i32 (by kernel_rfl) (y := -1) (s := 0) hc hz (by simp [go_sem]; rfl)
  have hcv := run_convert_to_unsafe (P := Tryz.prog) (src := 308) (dst := 259) Tryz.underlying308 Tryz.underlying259 (by kernel_rfl) hc
  go_enter_d Tryz.func217, Tryz.ntmps217
  go_wp2
  go_end0
  go_wp2
  go_end0
  exact ⟨rfl, rfl⟩
set_option maxRecDepth 100000 in
set_option maxHeartbeats 1600000 in
/-- '(*sync.Mutex).Lock', the lock free: state 1. -/
theorem lock_free (a : Addr) (w : World) (hc : w.cell? a = some (.int .i32 0)) (hz : w.frozen? a = false) :
    Calls Tryz.prog 216 #[.pointer (some a)] w fun e w' => e = .returned (.tuple #[]) ∧ w' = w.setCell a (.int .i32 1) := by
  have hd := rDisable
  have he := rEnable
  have ha := rAcquire
  have hcas := run_call_cas_hit (P := Tryz.prog) Tryz.func243 (by kernel_rfl) (by kernel_rfl) (by kernel_rfl) .i32 (by kernel_rfl) (y := 1) hc hz
  have hc' : (w.setCell a (.int .i32 1)).cell? a = some (.int .i32 1) := World.cell?_setCell_same w a _ hc
  have hcv := run_convert_to_unsafe (P := Tryz.prog) (src := 308) (dst := 259) Tryz.underlying308 Tryz.underlying259 (by kernel_rfl) hc'
  go_enter Tryz.func216, Tryz.ntmps216
  go_wp2
  first | go_end0 | (simp only [Exit.inBlock, Exit.then]; refine bodyPost_ret (results_none rfl _ _ _) rfl ?_) | refine bodyPost_ret (results_none rfl _ _ _) rfl ?_
  go_wp2
  go_end0
  exact ⟨rfl, rfl⟩
end Go.Proofs.YtnehgbpfgehhiaaGreatDoor.Path
/-
  PATH, the program: a Replacer's block: Once, what is built, the strings; the first Do.
-/
namespace Go.Proofs.YtnehgbpfgehhiaaGreatDoor.Path
open Go.RowKit Base
def onceO (d m : Int) (r o : Value) : Obj := .cells #[.int .u32 d, .int .i32 m, .int .u32 0, r, o] 214
theorem five_cells {w : World} {k : Nat} {a b c d e : Value} {t : TypeId} (h : w.heap[k]? = some (.cells #[a, b, c, d, e] t (0, 0))) :
    w.cell? ⟨k, 0, none⟩ = some a ∧ w.cell? ⟨k, 1, none⟩ = some b ∧ w.cell? ⟨k, 3, none⟩ = some d ∧ w.cell? ⟨k, 4, none⟩ = some e ∧ (∀ j, w.frozen? ⟨k, j, none⟩ = false) := by
  refine ⟨?_, ?_, ?_, ?_, fun j => ?_⟩
  · unfold World.cell?; rw [h]; rfl
  · unfold World.cell?; rw [h]; rfl
  · unfold World.cell?; rw [h]; rfl
  · unfold World.cell?; rw [h]; rfl
  · unfold World.frozen?; rw [h]; simp
theorem once_set {w : World} {b : Nat} {d m : Int} {r o : Value} (h : w.heap[b]? = some (onceO d m r o)) :
    (∀ x : Int, (w.setCell ⟨b, 0, none⟩ (.int .u32 x)).heap[b]? = some (onceO x m r o)) ∧ (∀ x : Int, (w.setCell ⟨b, 1, none⟩ (.int .i32 x)).heap[b]? = some (onceO d x r o)) ∧ (∀ x : Value, (w.setCell ⟨b, 3, none⟩ x).heap[b]? = some (onceO d m x o)) ∧ (∀ x : Value, (w.setCell ⟨b, 4, none⟩ x).heap[b]? = some (onceO d m r x)) := by
  refine ⟨fun x => ?_, fun x => ?_, fun x => ?_, fun x => ?_⟩
  all_goals
    unfold onceO at h ⊢
    rw [heap_setCell_any w b _ _ _ _ _ h]
    rfl
/-- A replacer of the two bytes, built: apart from the block b. -/
def Built (b : Nat) (d m : Int) (w' : World) : Prop := ∃ g A c1 c2 a1 a2, w'.heap[b]? = some (onceO d m (.iface 282 (.pointer (some ⟨g, 0, none⟩))) (.slice none 0 0)) ∧ RepAt w' g A c1 c2 a1 a2 ∧ b ≠ g ∧ b ≠ A ∧ b ≠ a1 ∧ b ≠ a2
theorem cell_keptX {w w' : World} {b k o : Nat} {v : Value} (h : w.cell? ⟨k, o, none⟩ = some v) (hne : b ≠ k) (hk : KeepX b w w') : w'.cell? ⟨k, o, none⟩ = some v := by
  have hl := cell_lt h
  unfold World.cell? at h ⊢
  rw [hk.block k hl (fun e => hne e.symm)]
  exact h
theorem reads_keptX {w w' : World} {b a c : Nat} {l : List UInt8} (h : Reads w (.slice (some ⟨a, 0, none⟩) 2 c) l) (hl : l.length = 2) (hne : b ≠ a) (hk : KeepX b w w') : Reads w' (.slice (some ⟨a, 0, none⟩) 2 c) l := by
  rcases h with ⟨rfl, _⟩ | ⟨b', o, c', e, h1, hc⟩
  · simp at hl
  · injection e with e1 e2 e3
    injection e1 with e1
    injection e1 with e4 e5
    subst e4; subst e5; subst e3
    exact Or.inr ⟨a, 0, c, by rw [hl], h1, fun i hi => cell_keptX (hc i hi) hne hk⟩
theorem RepAt.keptX {w w' : World} {b g A c1 c2 a1 a2 : Nat} (h : RepAt w g A c1 c2 a1 a2) (h1 : b ≠ g) (h2 : b ≠ A) (h3 : b ≠ a1) (h4 : b ≠ a2) (hk : KeepX b w w') : RepAt w' g A c1 c2 a1 a2 :=
  ⟨fun c hc => cell_keptX (h.row c hc) h1 hk, cell_keptX h.list h1 hk, cell_keptX h.l0 h2 hk, cell_keptX h.l1 h2 hk, reads_keptX h.q rfl h3 hk, reads_keptX h.b rfl h4 hk⟩
def BuiltEnd (b : Nat) (d m : Int) (w : World) (e : Ending) (w' : World) : Prop := e = .returned (.tuple #[]) ∧ Built b d m w' ∧ KeepX b w w'
def buildF (b : Nat) : Value := .func (.func 172) #[.pointer (some ⟨b, 0, none⟩)] #[]
/-- What buildOnce does to a block that is not built yet. -/
def BuildOk (b : Nat) (o : Value) (w : World) : Prop := ∀ W : World, W.heap[b]? = some (onceO 0 1 .nilIface o) → KeepX b w W → Calls Tryz.prog 172 #[.pointer (some ⟨b, 0, none⟩)] W (BuiltEnd b 0 1 W)
set_option maxRecDepth 100000 in
set_option maxHeartbeats 1600000 in
theorem pSlow (b : Nat) (o : Value) (w : World) (hw : w.heap[b]? = some (onceO 0 0 .nilIface o)) (HB : BuildOk b o w) :
    Calls Tryz.prog 202 #[.pointer (some ⟨b, 0, none⟩), buildF b] w (BuiltEnd b 1 0 w) := by
  obtain ⟨z0, z1, z3, z4, zf⟩ := five_cells hw
  have hw1 := (once_set hw).2.1 1
  have HW1 := Lib.hid hw1
  have HK1 := Lib.hid (KeepX.set b w 1 (.int .i32 1))
  have C1 := Lib.hid (HB _ hw1 (KeepX.set b w 1 (.int .i32 1)))
  obtain ⟨y0, y1, y3, y4, yf⟩ := five_cells hw1
  have hl := run_call_load (P := Tryz.prog) Tryz.func215 (by kernel_rfl) (by kernel_rfl) (by kernel_rfl) .u32 (by kernel_rfl) (w := w.setCell ⟨b, 1, none⟩ (.int .i32 1)) (a := ⟨b, 0, none⟩) (x := 0) y0
  have hnot : ∀ (x : Bool) (w : World), (Op.unary .not (.bool x)).run Tryz.prog w = .ok (.bool (!x)) w := fun _ _ => rfl
  clear HB hw hw1
  unfold buildF
  go_enter_defers Tryz.func202, Tryz.ntmps202
  go_wp2_with (first | (go_at_call 216; refine (lock_free ⟨b, 1, none⟩ _ z1 (zf 1)).mono ?_; rintro e w' ⟨rfl, rfl⟩) | (go_at_call 201; go_in) | (go_at_call 172; refine C1.out.mono ?_; rintro e w2 ⟨rfl, hbt, hk⟩; refine Hid.out ?_) | fail)
  refine Lib.hid ?_
  have HBT := Lib.hid hbt
  have HK2 := Lib.hid hk
  obtain ⟨g, A, c1, c2, a1, a2, h5, hR, n1, n2, n3, n4⟩ := hbt
  obtain ⟨x0, x1, x3, x4, xf⟩ := five_cells h5
  clear hk
  go_wp2
  -- the door: two deferred calls, the last laid first
  refine leaves_cons (f := 218) (args := #[.pointer (some ⟨b, 0, none⟩), .bool true]) (by simp) (by simp [go_sem]) ?_
  refine (store_deferred ⟨b, 0, none⟩ (.int .u32 0) .returning _ x0 (xf 0)).mono ?_
  rintro e u' w'' ⟨rfl, rfl, rfl⟩
  have q1 : (w2.drew.setCell ⟨b, 0, none⟩ (.int .u32 1)).heap[b]? = some (onceO 1 1 (.iface 282 (.pointer (some ⟨g, 0, none⟩))) (.slice none 0 0)) := (once_set (w := w2.drew) h5).1 1
  obtain ⟨v0, v1, v3, v4, vf⟩ := five_cells q1
  refine leaves_cons (f := 217) (args := #[.pointer (some ⟨b, 1, none⟩)]) (by simp [settle]) (by simp [go_sem]) ?_
  refine (unlock_deferred ⟨b, 1, none⟩ _ _ v1 (vf 1)).mono ?_
  rintro e u' w'' ⟨rfl, rfl, rfl⟩
  have hk2 : KeepX b w2 ((w2.drew.setCell ⟨b, 0, none⟩ (.int .u32 1)).setCell ⟨b, 1, none⟩ (.int .i32 0)) := (KeepX.drewN 1).trans ((KeepX.set b _ 0 _).trans (KeepX.set b _ 1 _))
  have hend : BuiltEnd b 1 0 w (.returned (.tuple #[])) ((w2.drew.setCell ⟨b, 0, none⟩ (.int .u32 1)).setCell ⟨b, 1, none⟩ (.int .i32 0)) :=
    ⟨rfl, ⟨g, A, c1, c2, a1, a2, (once_set q1).2.1 0, hR.keptX n1 n2 n3 n4 hk2, n1, n2, n3, n4⟩, HK1.out.trans (HK2.out.trans hk2)⟩
  simpa [Leaves, settle, results, Tryz.results202] using hend
/-- '(*sync.Once).Do', not yet done. -/
theorem pDo (b : Nat) (o : Value) (w : World) (hw : w.heap[b]? = some (onceO 0 0 .nilIface o)) (HB : BuildOk b o w) :
    Calls Tryz.prog 171 #[.pointer (some ⟨b, 0, none⟩), buildF b] w (BuiltEnd b 1 0 w) := by
  obtain ⟨z0, z1, z3, z4, zf⟩ := five_cells hw
  have C1 := Lib.hid (pSlow b o w hw HB)
  have hl := run_call_load (P := Tryz.prog) Tryz.func215 (by kernel_rfl) (by kernel_rfl) (by kernel_rfl) .u32 (by kernel_rfl) z0
  have hnot : ∀ (x : Bool) (w : World), (Op.unary .not (.bool x)).run Tryz.prog w = .ok (.bool (!x)) w := fun _ _ => rfl
  clear HB
  unfold buildF at C1 ⊢
  go_enter Tryz.func171, Tryz.ntmps171
  go_wp2_with (first | (go_at_call 202; refine C1.out.mono ?_; rintro e w' ⟨rfl, h1, h2⟩) | (go_at_call 201; go_in) | fail)
  go_end0
  exact ⟨rfl, h1, h2⟩
end Go.Proofs.YtnehgbpfgehhiaaGreatDoor.Path
/-
  PATH, the program: the library's Replacer is built: the table's block.
-/
namespace Go.Proofs.YtnehgbpfgehhiaaGreatDoor.Path
open Go.RowKit Base
def tabL (v : Value) : List Value := (List.replicate 257 (Value.slice none 0 0)).set 256 v
def tabT (v : Value) : Obj := .cells (tabL v).toArray 281
theorem infoS : (Tryz.prog.info? 9).map (fun i => (i.zero, i.size, i.bytes)) = some (some (.string ⟨#[]⟩), 1, 16) := by kernel_rfl
theorem info_tab : (Tryz.prog.info? 281).map (·.size) = some 257 := by kernel_rfl
theorem zc_list : Tryz.zeroCells281.toList = List.replicate 257 (Value.slice none 0 0) := by kernel_rfl
theorem zc_size : Tryz.zeroCells281.size = 257 := by rw [← Array.length_toList, zc_list, List.length_replicate]
theorem tab_len (v : Value) : (tabL v).length = 257 := by unfold tabL; rw [List.length_set, List.length_replicate]
theorem tab_one (a : Option Addr) (n c : Nat) : ∀ v ∈ tabL (.slice a n c), v.oneCell' = true := by
  intro v hv
  unfold tabL at hv
  rcases List.mem_or_eq_of_mem_set hv with h | h
  · rw [List.eq_of_mem_replicate h]; rfl
  · rw [h]; rfl
theorem tab_at (v : Value) (c : Nat) (hc : c < 256) : (tabL v)[c]? = some (.slice none 0 0) := by
  unfold tabL
  rw [List.getElem?_set_ne (by omega), List.getElem?_replicate, if_pos (by omega)]
theorem tab_last (v : Value) : (tabL v)[256]? = some v := by
  unfold tabL
  rw [List.getElem?_set_self (by rw [List.length_replicate]; omega)]
theorem store_tab (W : World) (a : Option Addr) (n c : Nat) : (storeCells ⟨W.heap.size, 0, none⟩ (Tryz.zeroCells281.toList.set 256 (.slice a n c))).run Tryz.prog (W.alloc (.cells Tryz.zeroCells281 281)) = .ok () (W.alloc (tabT (.slice a n c))) := by
  have h := run_storeCells_new (P := Tryz.prog) W 281 Tryz.zeroCells281 (tabL (.slice a n c)).toArray (by rw [info_tab, List.size_toArray, tab_len]) (by rw [zc_size, List.size_toArray, tab_len]) (by
    rw [List.all_toArray, List.all_eq_true]; exact tab_one a n c)
  rw [zc_list]
  exact h
theorem tab_cells (W : World) (v : Value) : (∀ c, c < 256 → (W.alloc (tabT v)).cell? ⟨W.heap.size, c, none⟩ = some (.slice none 0 0)) ∧ (W.alloc (tabT v)).cell? ⟨W.heap.size, 256, none⟩ = some v ∧ ∀ c, (W.alloc (tabT v)).frozen? ⟨W.heap.size, c, none⟩ = false := by
  have hh : (W.alloc (tabT v)).heap[W.heap.size]? = some (.cells (tabL v).toArray 281 (0, 0)) := (MapKept.heap_alloc W _).1
  refine ⟨fun c hc => ?_, ?_, fun c => ?_⟩
  · unfold World.cell?; rw [hh]
    show (tabL v).toArray[c]? = _
    rw [List.getElem?_toArray, tab_at v c hc]
  · unfold World.cell?; rw [hh]
    show (tabL v).toArray[256]? = _
    rw [List.getElem?_toArray, tab_last]
  · unfold World.frozen?; rw [hh]; simp
end Go.Proofs.YtnehgbpfgehhiaaGreatDoor.Path
/-
  PATH, the program: the replacer's table while it is filled.
-/
namespace Go.Proofs.YtnehgbpfgehhiaaGreatDoor.Path
open Go.RowKit Base
structure TabSt (W wx : World) (g m n : Nat) (strs : List Value) (row : Nat → Value) : Prop where
  cell : ∀ c, c < 256 → wx.cell? ⟨g, c, none⟩ = some (row c)
  list : wx.cell? ⟨g, 256, none⟩ = some (.slice (some ⟨W.heap.size, 0, none⟩) m 2)
  free : ∀ c, wx.frozen? ⟨g, c, none⟩ = false
  own : wx.ownsRow W.heap.size 9 1 (.slice (some ⟨W.heap.size, 0, none⟩) n 2) n strs
  below : Below W.heap.size W wx
  low : W.heap.size < g
  high : g < wx.heap.size
theorem TabSt.new {W w1 : World} (ho : w1.ownsRow W.heap.size 9 1 (.slice (some ⟨W.heap.size, 0, none⟩) 0 2) 0 []) (hg : W.grownBy w1 none) :
    TabSt W (w1.alloc (tabT (.slice (some ⟨W.heap.size, 0, none⟩) 0 2))) w1.heap.size 0 0 [] (fun _ => .slice none 0 0) := by
  obtain ⟨h1, h2, h3⟩ := tab_cells w1 (.slice (some ⟨W.heap.size, 0, none⟩) 0 2)
  have hb : Below W.heap.size W w1 := (Below.refl _ _).grown hg (Nat.le_refl _) (fun k hk => by cases hk)
  have hlt := (ho.lt W.heap.size rfl).2
  exact ⟨h1, h2, h3, ho.alloc _, hb.alloc hb.size _, hlt, by show _ < (w1.heap.push _).size; rw [Array.size_push]; exact Nat.lt_succ_self _⟩
theorem TabSt.on {W wx w' : World} {g m n : Nat} {strs : List Value} {row : Nat → Value} (h : TabSt W wx g m n strs row) (hb : Below wx.heap.size wx w') : TabSt W w' g m n strs row := by
  have hblk := hb.block g h.high
  refine ⟨fun c hc => ?_, ?_, fun c => ?_, ?_, h.below.trans (hb.mono h.below.size), h.low, Nat.lt_of_lt_of_le h.high hb.size⟩
  · have := h.cell c hc; unfold World.cell? at this ⊢; rw [hblk]; exact this
  · have := h.list; unfold World.cell? at this ⊢; rw [hblk]; exact this
  · have := h.free c; unfold World.frozen? at this ⊢; rw [hblk]; exact this
  · obtain ⟨e1, e2⟩ := h.own
    refine ⟨e1, ?_⟩
    rcases e2 with ⟨e3, _⟩ | ⟨k, cap, cur, e3, e4, e5, e6⟩
    · cases e3
    · exact Or.inr ⟨k, cap, cur, e3, e4, by rw [hb.block k (heap_lt e5)]; exact e5, e6⟩
theorem TabSt.app {W wx w' : World} {g m n n' : Nat} {strs strs' : List Value} {row : Nat → Value} (h : TabSt W wx g m n strs row) (ho : w'.ownsRow W.heap.size 9 1 (.slice (some ⟨W.heap.size, 0, none⟩) n' 2) n' strs') (hg : wx.grownBy w' (some W.heap.size)) : TabSt W w' g m n' strs' row := by
  have hblk : w'.heap[g]? = wx.heap[g]? := hg.block g h.high (fun e => by injection e with e; have := h.low; omega)
  refine ⟨fun c hc => ?_, ?_, fun c => ?_, ho, h.below.grown hg h.below.size (fun k hk => by injection hk with hk; omega), h.low, Nat.lt_of_lt_of_le h.high hg.size⟩
  · have := h.cell c hc; unfold World.cell? at this ⊢; rw [hblk]; exact this
  · have := h.list; unfold World.cell? at this ⊢; rw [hblk]; exact this
  · have := h.free c; unfold World.frozen? at this ⊢; rw [hblk]; exact this
theorem TabSt.set {W wx : World} {g m n m' : Nat} {strs : List Value} {row : Nat → Value} (h : TabSt W wx g m n strs row) : TabSt W (wx.setCell ⟨g, 256, none⟩ (.slice (some ⟨W.heap.size, 0, none⟩) m' 2)) g m' n strs row := by
  have hk := KeepX.set g wx 256 (.slice (some ⟨W.heap.size, 0, none⟩) m' 2)
  refine ⟨fun c hc => ?_, World.cell?_setCell_same _ _ _ h.list, fun c => ?_, ?_, h.below.trans (hk.below (Nat.le_of_lt h.low) h.high), h.low, Nat.lt_of_lt_of_le h.high hk.size⟩
  · rw [World.cell?_setCell_other _ _ _ _ (fun e => by injection e with _ e; omega)]; exact h.cell c hc
  · rw [World.frozen?_setCell]; exact h.free c
  · obtain ⟨e1, e2⟩ := h.own
    refine ⟨e1, ?_⟩
    rcases e2 with ⟨e3, _⟩ | ⟨k, cap, cur, e3, e4, e5, e6⟩
    · cases e3
    · exact Or.inr ⟨k, cap, cur, e3, e4, by rw [hk.block k (heap_lt e5) (fun e => by injection e3 with e3; injection e3 with e3; injection e3 with e3; have := h.low; omega)]; exact e5, e6⟩
theorem TabSt.put {W wx : World} {g m n : Nat} {strs : List Value} {row : Nat → Value} (h : TabSt W wx g m n strs row) (p : Nat) (hp : p < 256) (v : Value) : TabSt W (wx.setCell ⟨g, p, none⟩ v) g m n strs (fun c => if c = p then v else row c) := by
  have hk := KeepX.set g wx p v
  refine ⟨fun c hc => ?_, ?_, fun c => ?_, ?_, h.below.trans (hk.below (Nat.le_of_lt h.low) h.high), h.low, Nat.lt_of_lt_of_le h.high hk.size⟩
  · by_cases e : c = p
    · subst e; simp only [if_true]; exact World.cell?_setCell_same _ _ _ (h.cell c hc)
    · simp only [if_neg e]; rw [World.cell?_setCell_other _ _ _ _ (fun e2 => by injection e2 with _ e2; omega)]; exact h.cell c hc
  · rw [World.cell?_setCell_other _ _ _ _ (fun e => by injection e with _ e; omega)]; exact h.list
  · rw [World.frozen?_setCell]; exact h.free c
  · obtain ⟨e1, e2⟩ := h.own
    refine ⟨e1, ?_⟩
    rcases e2 with ⟨e3, _⟩ | ⟨k, cap, cur, e3, e4, e5, e6⟩
    · cases e3
    · exact Or.inr ⟨k, cap, cur, e3, e4, by rw [hk.block k (heap_lt e5) (fun e => by injection e3 with e3; injection e3 with e3; injection e3 with e3; have := h.low; omega)]; exact e5, e6⟩
end Go.Proofs.YtnehgbpfgehhiaaGreatDoor.Path
