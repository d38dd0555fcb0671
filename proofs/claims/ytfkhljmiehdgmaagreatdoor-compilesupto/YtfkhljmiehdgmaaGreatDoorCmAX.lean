/-
  Steps of the proof.
-/
import Derived.Test.YtfkhljmiehdgmaaGreatDoorCmAP
set_option maxRecDepth 100000
set_option maxHeartbeats 40000000
namespace Go.Proofs.YtfkhljmiehdgmaaGreatDoor
open Go.RowKit
def qfc(n:Int)(v:Pl.Vw):Value:=.agg #[.int .i64 n,.int .i64 v.mode,.int .i64 v.elem,.int .i64 v.attr,.int .i64 v.ends,.int .i64 v.esc,.int .i64 v.pct,.int .i64 v.link,.string ⟨v.name.toArray⟩,.bool v.ref]
def qcf(n:Int)(v:Pl.Vw):Array Value:=#[.int .i64 n,.int .i64 v.mode,.int .i64 v.elem,.int .i64 v.attr,.int .i64 v.ends,.int .i64 v.esc,.int .i64 v.pct,.int .i64 v.link,.string ⟨v.name.toArray⟩,.bool v.ref]
theorem qfj(w:World)(o:Obj)(a:Addr)(h:a.block<w.heap.size):(w.alloc o).cell? a=w.cell? a:=by
 unfold World.cell?;rw[heap_alloc_old w o h]
structure VisAt(w:World)(B:Nat)(L:List (Int×Pl.Vw)):Prop where
 cell:∀i x,L[i]?=some x->∀j v,(qcf x.1 x.2).toList[j]?=some v->w.cell? ⟨B,i*10+j,none⟩=some v
 lt:B<w.heap.size
theorem qn7(B c:Nat)(L:List (Int×Pl.Vw))(n:Int)(v:Pl.Vw)(w:World)(hL:L.length<=1000000000000)(h:VisAt w B L) :
  Calls Tryz.prog 57 #[.slice (some ⟨B,0,none⟩) L.length c,qfc n v] w fun e w'=>(∃b:Bool,e=.returned (.bool b)/\(b=true↔(n,v)∈L))/\Below w.heap.size w w':=by
 have HF:Hid (∀W0,w.alloc (.cells (qcf n v) 143)=W0->VisAt W0 B L/\(∀(j:Nat) (u:Value),(qcf n v).toList[j]?=some u->W0.cell? ⟨w.heap.size,j,none⟩=some u)/\Below w.heap.size w W0):=by
  rintro W0 rfl;exact⟨⟨fun i x hx j u hu=>(qfj _ _ _ h.lt).trans (h.cell i x hx j u hu),Nat.lt_of_lt_of_le h.lt (by simp)⟩,fun j u hu=>qaa (heap_alloc_new w _) j u hu,ba _⟩
 clear h;unfold qfc;unfold qcf at HF;go_enter Tryz.func57,Tryz.ntmps57
 go_wp2_with fail
 generalize hW:w.alloc _=W0;obtain⟨hA,hO,hB⟩:=HF.out W0 hW;have HA:=hd hA;have HB:=hd hB;have r0:=hO 0 _ rfl;have r1:=hO 1 _ rfl;have r2:=hO 2 _ rfl;have r3:=hO 3 _ rfl;have r4:=hO 4 _ rfl;have r5:=hO 5 _ rfl;have r6:=hO 6 _ rfl;have r7:=hO 7 _ rfl;have r8:=hO 8 _ rfl;have r9:=hO 9 _ rfl;clear hA hB hO HF hW;go_loopw [5] (fun i wr=>∃k:Nat,k<=L.length/\i=.int .i64 k/\Hid ((n,v)∉L.take k)/\∃m,wr=W0.drewN m) (fun i _=>L.length - (intOf i).toNat)
 case atStart=>exact⟨0,Nat.zero_le _,rfl,by show _∉_;simp,0,rfl⟩
 case round=>
  obtain⟨k,hk,rfl,HN,m,rfl⟩:=hrel;by_cases Ha:k<L.length
  ·have hx:L[k]?=some L[k]:=List.getElem?_eq_getElem Ha
   have hc:=HA.out.cell k _ hx;unfold qcf at hc;have q0:=hc 0 _ rfl;have q1:=hc 1 _ rfl;have q2:=hc 2 _ rfl;have q3:=hc 3 _ rfl;have q4:=hc 4 _ rfl;have q5:=hc 5 _ rfl;have q6:=hc 6 _ rfl;have q7:=hc 7 _ rfl;have q8:=hc 8 _ rfl;have q9:=hc 9 _ rfl;clear hc;simp only[Nat.add_zero]at q0;have HX:=(show Hid (L[k]?=some L[k])from hx);clear hx;generalize L[k]=X at q0 q1 q2 q3 q4 q5 q6 q7 q8 q9 HX;by_cases e0:X.1=n
   rotate_left
   ·have HD:Hid ((n,v)∉L.take (k+1)):=by
     show _∉_;rw[List.take_add_one,HX.out];intro q;rcases List.mem_append.1 q with q|q
     ·exact HN.out q
     ·exact e0 (by rw[<-List.mem_singleton.1 (show(n,v)∈[X]from q)])
    clear HN HX HA;go_wp2_with fail
    go_region
    all_goals
     go_wp2
     go_roundw
     case rel=>exact⟨k+1,by omega,by go_num,HD,m+1,by simp[World.drewN]⟩
     case measure=>simp[intOf];omega
   by_cases e1:X.2.mode=v.mode
   rotate_left
   ·have HD:Hid ((n,v)∉L.take (k+1)):=by
     show _∉_;rw[List.take_add_one,HX.out];intro q;rcases List.mem_append.1 q with q|q
     ·exact HN.out q
     ·exact e1 (by rw[<-List.mem_singleton.1 (show(n,v)∈[X]from q)])
    clear HN HX HA;go_wp2_with fail
    go_region
    all_goals
     go_wp2
     go_roundw
     case rel=>exact⟨k+1,by omega,by go_num,HD,m+1,by simp[World.drewN]⟩
     case measure=>simp[intOf];omega
   by_cases e2:X.2.elem=v.elem
   rotate_left
   ·have HD:Hid ((n,v)∉L.take (k+1)):=by
     show _∉_;rw[List.take_add_one,HX.out];intro q;rcases List.mem_append.1 q with q|q
     ·exact HN.out q
     ·exact e2 (by rw[<-List.mem_singleton.1 (show(n,v)∈[X]from q)])
    clear HN HX HA;go_wp2_with fail
    go_region
    all_goals
     go_wp2
     go_roundw
     case rel=>exact⟨k+1,by omega,by go_num,HD,m+1,by simp[World.drewN]⟩
     case measure=>simp[intOf];omega
   by_cases e3:X.2.attr=v.attr
   rotate_left
   ·have HD:Hid ((n,v)∉L.take (k+1)):=by
     show _∉_;rw[List.take_add_one,HX.out];intro q;rcases List.mem_append.1 q with q|q
     ·exact HN.out q
     ·exact e3 (by rw[<-List.mem_singleton.1 (show(n,v)∈[X]from q)])
    clear HN HX HA;go_wp2_with fail
    go_region
    all_goals
     go_wp2
     go_roundw
     case rel=>exact⟨k+1,by omega,by go_num,HD,m+1,by simp[World.drewN]⟩
     case measure=>simp[intOf];omega
   by_cases e4:X.2.ends=v.ends
   rotate_left
   ·have HD:Hid ((n,v)∉L.take (k+1)):=by
     show _∉_;rw[List.take_add_one,HX.out];intro q;rcases List.mem_append.1 q with q|q
     ·exact HN.out q
     ·exact e4 (by rw[<-List.mem_singleton.1 (show(n,v)∈[X]from q)])
    clear HN HX HA;go_wp2_with fail
    go_region
    all_goals
     go_wp2
     go_roundw
     case rel=>exact⟨k+1,by omega,by go_num,HD,m+1,by simp[World.drewN]⟩
     case measure=>simp[intOf];omega
   by_cases e5:X.2.esc=v.esc
   rotate_left
   ·have HD:Hid ((n,v)∉L.take (k+1)):=by
     show _∉_;rw[List.take_add_one,HX.out];intro q;rcases List.mem_append.1 q with q|q
     ·exact HN.out q
     ·exact e5 (by rw[<-List.mem_singleton.1 (show(n,v)∈[X]from q)])
    clear HN HX HA;go_wp2_with fail
    go_region
    all_goals
     go_wp2
     go_roundw
     case rel=>exact⟨k+1,by omega,by go_num,HD,m+1,by simp[World.drewN]⟩
     case measure=>simp[intOf];omega
   by_cases e6:X.2.pct=v.pct
   rotate_left
   ·have HD:Hid ((n,v)∉L.take (k+1)):=by
     show _∉_;rw[List.take_add_one,HX.out];intro q;rcases List.mem_append.1 q with q|q
     ·exact HN.out q
     ·exact e6 (by rw[<-List.mem_singleton.1 (show(n,v)∈[X]from q)])
    clear HN HX HA;go_wp2_with fail
    go_region
    all_goals
     go_wp2
     go_roundw
     case rel=>exact⟨k+1,by omega,by go_num,HD,m+1,by simp[World.drewN]⟩
     case measure=>simp[intOf];omega
   by_cases e7:X.2.link=v.link
   rotate_left
   ·have HD:Hid ((n,v)∉L.take (k+1)):=by
     show _∉_;rw[List.take_add_one,HX.out];intro q;rcases List.mem_append.1 q with q|q
     ·exact HN.out q
     ·exact e7 (by rw[<-List.mem_singleton.1 (show(n,v)∈[X]from q)])
    clear HN HX HA;go_wp2_with fail
    go_region
    all_goals
     go_wp2
     go_roundw
     case rel=>exact⟨k+1,by omega,by go_num,HD,m+1,by simp[World.drewN]⟩
     case measure=>simp[intOf];omega
   by_cases e8:X.2.name=v.name
   rotate_left
   ·have HD:Hid ((n,v)∉L.take (k+1)):=by
     show _∉_;rw[List.take_add_one,HX.out];intro q;rcases List.mem_append.1 q with q|q
     ·exact HN.out q
     ·exact e8 (by rw[<-List.mem_singleton.1 (show(n,v)∈[X]from q)])
    clear HN HX HA;go_wp2_with fail
    go_region
    all_goals
     go_wp2
     go_roundw
     case rel=>exact⟨k+1,by omega,by go_num,HD,m+1,by simp[World.drewN]⟩
     case measure=>simp[intOf];omega
   by_cases e9:X.2.ref=v.ref
   rotate_left
   ·have HD:Hid ((n,v)∉L.take (k+1)):=by
     show _∉_;rw[List.take_add_one,HX.out];intro q;rcases List.mem_append.1 q with q|q
     ·exact HN.out q
     ·exact e9 (by rw[<-List.mem_singleton.1 (show(n,v)∈[X]from q)])
    clear HN HX HA;go_wp2_with fail
    go_region
    all_goals
     go_wp2
     go_roundw
     case rel=>exact⟨k+1,by omega,by go_num,HD,m+1,by simp[World.drewN]⟩
     case measure=>simp[intOf];omega
   have HM:Hid ((n,v)∈L):=by
    obtain⟨xn,xm,xe,xa,xd,xc,xp,xl,xs,xr⟩:=X;obtain⟨vm,ve,va,vd,vc,vp,vl,vn,vr⟩:=v;simp only at e0 e1 e2 e3 e4 e5 e6 e7 e8 e9;subst e0 e1 e2 e3 e4 e5 e6 e7 e8 e9;exact List.mem_of_getElem? HX.out
   clear HN HX HA;go_wp2_with fail
   go_region
   all_goals
    go_wp2
    go_ret
    exact⟨⟨true,rfl,⟨fun _=>HM.out,fun _=>rfl⟩⟩,qay HB.out _⟩
  ·have hb:k=L.length:=by omega
   subst hb;have ha:=HN.out;rw[List.take_length]at ha;go_wp2
   go_ret
   exact⟨⟨false,rfl,⟨fun q=>(by cases q),fun q=>absurd q ha⟩⟩,qay HB.out _⟩
end Go.Proofs.YtfkhljmiehdgmaaGreatDoor
