/-
  Steps of the proof.
-/
import Derived.Test.YtfkhljmiehdgmaaGreatDoorCuAI
set_option maxRecDepth 100000
set_option maxHeartbeats 40000000
namespace Go.Proofs.YtfkhljmiehdgmaaGreatDoor
open Go.RowKit Go.Proofs.Tryz Pl
def qfv(n:Int)(v:Vw):Value:=.agg #[zI n,zI v.mode,zI v.elem,zI v.attr,zI v.ends,zI v.esc,zI v.pct,zI v.link,zV v.name,.bool v.ref]
def qcj(n:Int)(v:Vw):Array Value:=#[zI n,zI v.mode,zI v.elem,zI v.attr,zI v.ends,zI v.esc,zI v.pct,zI v.link,zV v.name,.bool v.ref]
theorem qgz(w:World)(o:Obj)(a:Addr)(h:a.block<w.heap.size):(w.alloc o).cell? a=w.cell? a:=by
 unfold World.cell?;rw[xJ w o h]
structure VisAt(w:World)(B:Nat)(L:List (Int×Vw)):Prop where
 cell:∀i x,L[i]?=some x->∀j v,(qcj x.1 x.2).toList[j]?=some v->w.cell? (zO B (i*10+j))=some v
 lt:B<w.heap.size
theorem qpo(B c:Nat)(L:List (Int×Vw))(n:Int)(v:Vw)(w:World)(hL:L.length<=1000000000000)(h:VisAt w B L) :
  zC 57 #[zF B L.length c,qfv n v] w fun e w'=>(∃b:Bool,e=.returned (.bool b)/\(b=true↔(n,v)∈L))/\zW w w':=by
 have HF:Hid (∀W0,w.alloc (.cells (qcj n v) 143)=W0->VisAt W0 B L/\(∀(j:Nat) (u:Value),(qcj n v).toList[j]?=some u->W0.cell? (zO w.heap.size j)=some u)/\zW w W0):=by
  rintro W0 rfl;exact⟨⟨fun i x hx j u hu=>(qgz _ _ _ h.lt).trans (h.cell i x hx j u hu),yi h.lt (by simp)⟩,fun j u hu=>qaa (xG w _) j u hu,zB _⟩
 clear h;unfold qfv;unfold qcj at HF;go_enter func57,ntmps57
 go_wp2
 generalize hW:w.alloc _=W0;obtain⟨hA,hO,hB⟩:=HF.out W0 hW;have HA:=zH hA;have HB:=zH hB;have r0:=al hO;clear hA hB hO HF hW;go_loopw [5] (fun i wr=>∃k:Nat,k<=L.length/\i=zI k/\Hid ((n,v)∉L.take k)/\∃m,wr=W0.drewN m) (fun i _=>L.length - (intOf i).toNat)
 case atStart=>exact⟨0,yH _,rfl,by show _∉_;simp,0,rfl⟩
 case round=>
  obtain⟨k,hk,rfl,HN,m,rfl⟩:=hrel;by_cases hb:k<L.length
  ·have hx:L[k]?=some L[k]:=yc hb
   have hc:=HA.out.cell k _ hx;unfold qcj at hc;have q0:=hc 0 _ rfl;have q1:=hc 1 _ rfl;have q2:=hc 2 _ rfl;have q3:=hc 3 _ rfl;have q4:=hc 4 _ rfl;have q5:=hc 5 _ rfl;have q6:=hc 6 _ rfl;have q7:=hc 7 _ rfl;have q8:=hc 8 _ rfl;have q9:=hc 9 _ rfl;clear hc;simp only[Nat.add_zero]at q0;have HX:=(show Hid (L[k]?=some L[k])from hx);clear hx;generalize L[k]=X at q0 q1 q2 q3 q4 q5 q6 q7 q8 q9 HX;have ha:Hid (X≠(n,v)->(n,v)∉L.take (k+1)):=fun hx q=>by
    rw[List.take_add_one,HX.out]at q;rcases yn.1 q with q|q
    ·exact HN.out q
    ·exact hx (yv.1 (show(n,v)∈[X]from q)).symm
   by_cases e0:X.1=n
   case' neg=>have HD:=zH (ha.out fun q=>e0 (by rw[q]))
   rotate_left
   by_cases e1:X.2.mode=v.mode
   case' neg=>have HD:=zH (ha.out fun q=>e1 (by rw[q]))
   rotate_left
   by_cases e2:X.2.elem=v.elem
   case' neg=>have HD:=zH (ha.out fun q=>e2 (by rw[q]))
   rotate_left
   by_cases e3:X.2.attr=v.attr
   case' neg=>have HD:=zH (ha.out fun q=>e3 (by rw[q]))
   rotate_left
   by_cases e4:X.2.ends=v.ends
   case' neg=>have HD:=zH (ha.out fun q=>e4 (by rw[q]))
   rotate_left
   by_cases e5:X.2.esc=v.esc
   case' neg=>have HD:=zH (ha.out fun q=>e5 (by rw[q]))
   rotate_left
   by_cases e6:X.2.pct=v.pct
   case' neg=>have HD:=zH (ha.out fun q=>e6 (by rw[q]))
   rotate_left
   by_cases e7:X.2.link=v.link
   case' neg=>have HD:=zH (ha.out fun q=>e7 (by rw[q]))
   rotate_left
   by_cases e8:X.2.name=v.name
   case' neg=>have HD:=zH (ha.out fun q=>e8 (by rw[q]))
   rotate_left
   by_cases e9:X.2.ref=v.ref
   case' neg=>have HD:=zH (ha.out fun q=>e9 (by rw[q]))
   rotate_left
   ·have HM:Hid ((n,v)∈L):=by
     obtain⟨xn,xm,xe,xa,xd,xc,xp,xl,xs,xr⟩:=X;obtain⟨vm,ve,va,vd,vc,vp,vl,vn,vr⟩:=v;simp only at e0 e1 e2 e3 e4 e5 e6 e7 e8 e9;subst e0 e1 e2 e3 e4 e5 e6 e7 e8 e9;exact yl HX.out
    clear HN HX HA ha;go_wp2
    go_region
    all_goals
     go_wp2
     go_ret
     exact⟨⟨true,rfl,⟨fun _=>HM.out,fun _=>rfl⟩⟩,qat HB.out _⟩
   all_goals
    clear HN HX HA ha;go_wp2
    go_region
    all_goals
     go_wp2
     go_roundw
     case rel=>exact⟨k+1,by omega,by go_num,HD,m+1,by simp[World.drewN]⟩
     case measure=>simp[intOf];omega
  ·have Hb:k=L.length:=by omega
   subst Hb;have Ha:=HN.out;rw[List.take_length]at Ha;go_wp2
   go_ret
   exact⟨⟨false,rfl,⟨fun q=>(by cases q),fun q=>absurd q Ha⟩⟩,qat HB.out _⟩
end Go.Proofs.YtfkhljmiehdgmaaGreatDoor
