/-
  Steps of the proof.
-/
import Derived.Test.YtfkhljmiehdgmaaGreatDoorCmAA
set_option maxRecDepth 100000
set_option maxHeartbeats 40000000
namespace Go.Proofs.YtfkhljmiehdgmaaGreatDoor
open Go.RowKit
def q5y(l:List (List UInt8×Int)):List Value:=l.flatMap fun r=>[.string ⟨r.1.toArray⟩,.int .i64 r.2]
def qrm(v:Value)(w:World)(l:List (List UInt8×Int)):Prop:=
 (l=[]/\v=.slice none 0 0)\/∃g,v=.slice (some ⟨g,0,none⟩) l.length l.length/\∀(k:Nat) (r:List UInt8×Int),l[k]?=some r->w.cell? ⟨g,k*2,none⟩=some (.string ⟨r.1.toArray⟩)/\w.cell? ⟨g,k*2+1,none⟩=some (.int .i64 r.2)
theorem qqn(w:World)(l:List (List UInt8×Int))(cs:Array Value)(t:TypeId)(g n:Nat)(hg:w.heap.size=g)(hn:l.length=n)(hc:cs.toList=q5y l):qrm (.slice (some ⟨g,0,none⟩) n n) (w.alloc (.cells cs t)) l:=by
 subst hg;subst hn;refine .inr ⟨_,rfl,fun k r hk=>?_⟩;obtain⟨a,b⟩:=q9t (fun r:List UInt8×Int=>Value.string ⟨r.1.toArray⟩) (fun r=>.int .i64 r.2) l k r hk;have h:=qaa (heap_alloc_new w (.cells cs t));rw[hc]at h;rw[Nat.mul_comm k 2];exact⟨h _ _ a,h _ _ b⟩
theorem qm4(m:Nat)(hm:m<=33)(w:World) :
  Calls Tryz.prog 210 #[.int .i64 m] w fun e w'=>∃v,e=.returned v/\qrm v w' (Pl.qju m)/\Below w.heap.size w w':=by
 by_cases h0:1<=m/\m<=18
 ·rcases(show m=1\/m=2\/m=3\/m=4\/m=5\/m=6\/m=7\/m=8\/m=9\/m=10\/m=11\/m=12\/m=13\/m=14\/m=15\/m=16\/m=17\/m=18 by omega)with rfl|rfl|rfl|rfl|rfl|rfl|rfl|rfl|rfl|rfl|rfl|rfl|rfl|rfl|rfl|rfl|rfl|rfl
  all_goals
   clear hm h0;go_enter Tryz.func210,Tryz.ntmps210
   go_wp2
   go_ret
   exact⟨_,rfl,qqn w (Pl.qju _) _ _ _ _ rfl rfl rfl,ba _⟩
 ·have e:Pl.qju m=[]:=by
   have:∀m,m<=33->¬(1<=m/\m<=18)->Pl.qju m=[]:=by decide
   exact this m hm h0
  rw[e];obtain⟨n1,n2,n3,n4,n5,n6,n7,n8,n9,n10,n11,n12,n13,n14,n15,n16,n17,n18⟩:((m:Int)==1)=false/\((m:Int)==2)=false/\((m:Int)==3)=false/\((m:Int)==4)=false/\((m:Int)==5)=false/\((m:Int)==6)=false/\((m:Int)==7)=false/\((m:Int)==8)=false/\((m:Int)==9)=false/\((m:Int)==10)=false/\((m:Int)==11)=false/\((m:Int)==12)=false/\((m:Int)==13)=false/\((m:Int)==14)=false/\((m:Int)==15)=false/\((m:Int)==16)=false/\((m:Int)==17)=false/\((m:Int)==18)=false:=by
   simp only[beq_eq_false_iff_ne];omega
  clear h0;go_enter Tryz.func210,Tryz.ntmps210
  go_wp2
  go_ret
  exact⟨_,rfl,.inl ⟨rfl,rfl⟩,Below.refl _ _⟩
theorem qsv(m:Nat)(ha:20<=m)(hm:m<=33)(w:World) :
  Calls Tryz.prog 211 #[.int .i64 m] w fun e w'=>∃v,e=.returned v/\qrm v w' (Pl.qll m)/\Below w.heap.size w w':=by
 rcases(show m=20\/m=21\/m=22\/m=23\/m=24\/m=25\/m=26\/m=27\/m=28\/m=29\/m=30\/m=31\/m=32\/m=33 by omega)with rfl|rfl|rfl|rfl|rfl|rfl|rfl|rfl|rfl|rfl|rfl|rfl|rfl|rfl
 all_goals
  clear hm ha;go_enter Tryz.func211,Tryz.ntmps211
  go_wp2
  go_ret
  exact⟨_,rfl,qqn w (Pl.qll _) _ _ _ _ rfl rfl rfl,ba _⟩
end Go.Proofs.YtfkhljmiehdgmaaGreatDoor
