/-
  MERGED by mergefill.py: R9Dom.
-/
import Derived.Test.YtghnopkgcgfcpaaGreatDoorR9L1Mg
set_option maxHeartbeats 16000000
set_option maxRecDepth 100000
namespace Go.Proofs.YtghnopkgcgfcpaaGreatDoor.Path
open Go.RowKit Base
def domG (s : ByteArray) : ByteArray × Bool × Int :=
 match litG s with
 | some f=>(f,true,0)
 | none=>if nmB s=true then (if 255 < s.size then (⟨#[]⟩,false,91) else (⟨(Table.lower s.data.toList).toArray⟩,false,0)) else (⟨#[]⟩,false,90)
def DomGEnd (w : World) (r : ByteArray × Bool × Int) (e : Ending) (w' : World) : Prop:=e=.returned (.tuple #[.string r.1,.bool r.2.1,.int .i64 r.2.2])∧Below w.heap.size w w'
theorem rDomain (s : ByteArray) (w : World) (hs : s.size≤4294967280) : Calls Tryz.prog 17 #[.string s] w (DomGEnd w (domG s)):=by
 have C1:=Lib.hid (rLit s w hs)
 have C2:=Lib.hid (fun w1=>rName s w1 (by omega))
 have C3:=Lib.hid (fun w1=>Table.rLower s w1 (by omega))
 unfold Table.LowEnd at C3
 obtain ⟨D,hD⟩ : ∃ D,D=domG s:=⟨_,rfl⟩
 rw [← hD]
 have HD : Hid (D=match litG s with
  | some f=>(f,true,0)
  | none=>if nmB s=true then (if 255 < s.size then (⟨#[]⟩,false,91) else (⟨(Table.lower s.data.toList).toArray⟩,false,0)) else (⟨#[]⟩,false,90)):=hD
 clear hD
 generalize litG s=o at C1 HD
 generalize nmB s=nb at C2 HD
 generalize Table.lower s.data.toList=L at C3 HD
 cases o with
 | some f =>
  have HT : Hid (D=(f,true,0)):=HD.out
  go_enter Tryz.func17,Tryz.ntmps17
  go_wp2_with (first | (go_at_call 45; refine C1.out.mono ?_; rintro ee w1 ⟨rfl,hb⟩; refine Hid.out ?_) | fail)
  refine Lib.hid ?_
  have HB1:=Lib.hid hb
  clear hb
  go_wp2
  go_ret3
  rw [HT.out]
  exact ⟨rfl,HB1.out⟩
 | none =>
  have HT : Hid (D=if nb=true then (if 255 < s.size then (⟨#[]⟩,false,91) else (⟨L.toArray⟩,false,0)) else (⟨#[]⟩,false,90)):=HD.out
  clear HD
  cases nb with
  | false =>
   have HT2 : Hid (D=(⟨#[]⟩,false,90)):=HT.out
   clear HT
   go_enter Tryz.func17,Tryz.ntmps17
   go_wp2_with (first | (go_at_call 45; refine C1.out.mono ?_; rintro ee w1 ⟨rfl,hb⟩; refine Hid.out ?_) | fail)
   refine Lib.hid ?_
   have HB1:=Lib.hid hb
   clear hb
   go_wp2_with (first | (go_at_call 26; refine (C2.out _).mono ?_; rintro ee w2 ⟨rfl,rfl⟩; refine Hid.out ?_) | fail)
   refine Lib.hid ?_
   go_wp2
   go_ret3
   rw [HT2.out]
   exact ⟨rfl,HB1.out⟩
  | true =>
   by_cases h5 : 255 < s.size
   ·have HT2 : Hid (D=(⟨#[]⟩,false,91)):=by show _=_; rw [HT.out,if_pos rfl,if_pos h5]
    have i5 : (255 : Int) < (s.size : Int):=by omega
    clear HT h5
    go_enter Tryz.func17,Tryz.ntmps17
    go_wp2_with (first | (go_at_call 45; refine C1.out.mono ?_; rintro ee w1 ⟨rfl,hb⟩; refine Hid.out ?_) | fail)
    refine Lib.hid ?_
    have HB1:=Lib.hid hb
    clear hb
    go_wp2_with (first | (go_at_call 26; refine (C2.out _).mono ?_; rintro ee w2 ⟨rfl,rfl⟩; refine Hid.out ?_) | fail)
    refine Lib.hid ?_
    go_wp2
    go_ret3
    rw [HT2.out]
    exact ⟨rfl,HB1.out⟩
   ·have HT2 : Hid (D=(⟨L.toArray⟩,false,0)):=by show _=_; rw [HT.out,if_pos rfl,if_neg h5]
    have i5 : ¬ (255 : Int) < (s.size : Int):=by omega
    clear HT h5
    go_enter Tryz.func17,Tryz.ntmps17
    go_wp2_with (first | (go_at_call 45; refine C1.out.mono ?_; rintro ee w1 ⟨rfl,hb⟩; refine Hid.out ?_) | fail)
    refine Lib.hid ?_
    have HB1:=Lib.hid hb
    clear hb
    go_wp2_with (first | (go_at_call 26; refine (C2.out _).mono ?_; rintro ee w2 ⟨rfl,rfl⟩; refine Hid.out ?_) | fail)
    refine Lib.hid ?_
    go_wp2_with (first | (go_at_call 23; refine (C3.out _).mono ?_; rintro ee w3 ⟨rfl,hb⟩; refine Hid.out ?_) | fail)
    refine Lib.hid ?_
    have HB3 : Hid (Below w.heap.size w w3):=HB1.out.trans (hb.mono HB1.out.size)
    clear hb
    go_wp2
    go_ret3
    rw [HT2.out]
    exact ⟨rfl,HB3.out⟩
end Go.Proofs.YtghnopkgcgfcpaaGreatDoor.Path
