/-
  Steps of the proof.
-/
import Derived.Test.YtfkhljmiehdgmaaGreatDoorCuAJ
set_option maxRecDepth 100000
set_option maxHeartbeats 40000000
namespace Go.Proofs.YtfkhljmiehdgmaaGreatDoor
open Go.RowKit Go.Proofs.Tryz Pl
def zbt(l:List (zU×Int)):List Value:=l.flatMap fun r=>[.string ⟨r.1.toArray⟩,zI r.2]
def qt2(v:Value)(w:World)(l:List (zU×Int)):Prop:=
 (l=[]/\v=zN)\/∃g,v=zF g l.length l.length/\∀(k:Nat) (r:zU×Int),l[k]?=some r->w.cell? (zO g (k*2))=some (.string ⟨r.1.toArray⟩)/\w.cell? (zO g (k*2+1))=some (zI r.2)
theorem qsp(w:World)(l:List (zU×Int))(cs:Array Value)(t:TypeId)(g n:Nat)(y:w.heap.size=g)(z:l.length=n)(D:cs.toList=zbt l):qt2 (zF g n n) (w.alloc (.cells cs t)) l:=by
 subst y;subst z;refine .inr ⟨_,rfl,fun k r I=>?_⟩;obtain⟨a,b⟩:=zf3 (fun r:zU×Int=>Value.string ⟨r.1.toArray⟩) (fun r=>zI r.2) l k r I;have h:=qaa (xF w (.cells cs t));rw[D]at h;rw[Nat.mul_comm k 2];exact⟨h _ _ a,h _ _ b⟩
theorem qok(m:Nat)(y:m<=33)(w:World) :
  zC 210 #[zI m] w fun e w'=>∃v,e=.returned v/\qt2 v w' (qkq m)/\zW w w':=by
 by_cases z:1<=m/\m<=18
 ·rcases(show m=1\/m=2\/m=3\/m=4\/m=5\/m=6\/m=7\/m=8\/m=9\/m=10\/m=11\/m=12\/m=13\/m=14\/m=15\/m=16\/m=17\/m=18 by omega)with rfl | rfl | rfl | rfl | rfl | rfl | rfl | rfl | rfl | rfl | rfl | rfl | rfl | rfl | rfl | rfl | rfl | rfl
  all_goals
   clear y z;go_enter func210,ntmps210
   go_wp2
   go_ret
   exact⟨_,rfl,qsp w (qkq _) _ _ _ _ rfl rfl rfl,zB _⟩
 ·have e:qkq m=[]:=by
   have:∀m,m<=33->¬(1<=m/\m<=18)->qkq m=[]:=by decide
   exact this m y z
  rw[e];obtain⟨n1,n2,n3,n4,n5,n6,n7,n8,n9,n10,n11,n12,n13,n14,n15,n16,n17,n18⟩:((m:Int)==1)=false/\((m:Int)==2)=false/\((m:Int)==3)=false/\((m:Int)==4)=false/\((m:Int)==5)=false/\((m:Int)==6)=false/\((m:Int)==7)=false/\((m:Int)==8)=false/\((m:Int)==9)=false/\((m:Int)==10)=false/\((m:Int)==11)=false/\((m:Int)==12)=false/\((m:Int)==13)=false/\((m:Int)==14)=false/\((m:Int)==15)=false/\((m:Int)==16)=false/\((m:Int)==17)=false/\((m:Int)==18)=false:=by
   simp only[yf];omega
  clear z;go_enter func210,ntmps210
  go_wp2
  go_ret
  exact⟨_,rfl,.inl ⟨rfl,rfl⟩,xL _ _⟩
theorem qvg(m:Nat)(y:20<=m)(z:m<=33)(w:World) :
  zC 211 #[zI m] w fun e w'=>∃v,e=.returned v/\qt2 v w' (qmv m)/\zW w w':=by
 rcases(show m=20\/m=21\/m=22\/m=23\/m=24\/m=25\/m=26\/m=27\/m=28\/m=29\/m=30\/m=31\/m=32\/m=33 by omega)with rfl|rfl|rfl|rfl|rfl|rfl|rfl|rfl|rfl|rfl|rfl|rfl|rfl|rfl
 all_goals
  clear z y;go_enter func211,ntmps211
  go_wp2
  go_ret
  exact⟨_,rfl,qsp w (qmv _) _ _ _ _ rfl rfl rfl,zB _⟩
end Go.Proofs.YtfkhljmiehdgmaaGreatDoor
