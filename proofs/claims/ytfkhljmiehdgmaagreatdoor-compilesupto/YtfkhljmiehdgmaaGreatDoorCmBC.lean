/-
  Steps of the proof.
-/
import Derived.Shelf.Strings.SlTrimAscii
import Derived.Test.YtfkhljmiehdgmaaGreatDoorCmAW
import Derived.Test.YtfkhljmiehdgmaaGreatDoorCmBA
import Derived.Test.YtfkhljmiehdgmaaGreatDoorCmAZ
import Derived.Test.YtfkhljmiehdgmaaGreatDoorCmAV
import Derived.Test.YtfkhljmiehdgmaaGreatDoorCmBB
import Derived.Test.YtfkhljmiehdgmaaGreatDoorCmAX
set_option maxRecDepth 100000
set_option maxHeartbeats 40000000
namespace Go.Proofs.YtfkhljmiehdgmaaGreatDoor
open Go.RowKit
theorem q5r(w:World)(B g:Nat)(t:List UInt8)(c:Pl.Ct)(vp vo:Value)(h:CtAt w B g t c vp vo)(one:Pl.Tg)(ho:Pl.TgOk one)(a:Nat)(hn:c.parts.length<=4000)(h6:c.opened.length<=6)(hO:∀m∈c.opened,m<c.parts.length) :
  Calls Tryz.prog 152 #[.pointer (some ⟨g,0,none⟩),qec one,.int .i64 a] w fun e w'=>e=.returned (.int .i64 (c.take one a).1)/\CtTo w w' B g t (c.take one a).2:=by
 by_cases hs:one.slip≠0
 ·exact q2s w B g t c vp vo h one a hs
 obtain⟨kind,slip,n,op,cl⟩:=one;obtain rfl:slip=0:=by simpa using hs
 have hk:=ho.kind;simp only at hk;rcases(show kind=2\/kind=6\/kind=3\/kind=4\/kind=5\/kind=7\/kind=8 by omega)with rfl|rfl|rfl|rfl|rfl|rfl|rfl
 ·exact qtu w B g t c vp vo h 2 n op cl a (.inl rfl) hn
 ·exact qtu w B g t c vp vo h 6 n op cl a (.inr rfl) hn
 ·by_cases hf:c.opened.length=6
  ·have e:c.take ⟨3,0,n,op,cl⟩ a=(8,c):=by simp[Pl.Ct.take,hf]
   rw[e];exact qtv w B g t c vp vo h 3 n op cl a (.inl rfl) hf
  ·have e:c.take ⟨3,0,n,op,cl⟩ a=(0,{ c with parts:=c.parts++[⟨3,a,n,0⟩],opened:=c.opened++[c.parts.length] }):=by simp[Pl.Ct.take,hf]
   rw[e];exact qtt w B g t c vp vo h 3 n op cl a (.inl rfl) (by omega) hn
 ·by_cases hf:c.opened.length=6
  ·have e:c.take ⟨4,0,n,op,cl⟩ a=(8,c):=by simp[Pl.Ct.take,hf]
   rw[e];exact qtv w B g t c vp vo h 4 n op cl a (.inr rfl) hf
  ·have e:c.take ⟨4,0,n,op,cl⟩ a=(0,{ c with parts:=c.parts++[⟨4,a,n,0⟩],opened:=c.opened++[c.parts.length] }):=by simp[Pl.Ct.take,hf]
   rw[e];exact qtt w B g t c vp vo h 4 n op cl a (.inr rfl) (by omega) hn
 ·by_cases h0:c.opened.length=0
  ·have e:c.take ⟨5,0,n,op,cl⟩ a=(5,c):=by simp[Pl.Ct.take,List.length_eq_zero_iff.1 h0]
   rw[e];exact q0c w B g t c vp vo h n op cl a h0
  ·obtain⟨k,hk⟩:∃k,c.opened.length=k+1:=⟨c.opened.length - 1,by omega⟩
   have hx:c.opened[k]?=some c.opened[k]:=List.getElem?_eq_getElem (by omega);have hl:c.opened.getLast?=some c.opened[k]:=by rw[List.getLast?_eq_getElem?,show c.opened.length - 1=k by omega];exact hx
   have hm:=hO _ (List.mem_of_getElem? hx);generalize c.opened[k]=m at hx hl hm;have hp:c.parts[m]?=some c.parts[m]:=List.getElem?_eq_getElem hm;generalize c.parts[m]=p at hp;have ht:Pl.qlb c.parts m=p.text:=by unfold Pl.qlb;rw[hp]
   by_cases he:p.text=n
   ·have e:c.take ⟨5,0,n,op,cl⟩ a=(0,{ c with parts:=Pl.qbc c.parts m c.parts.length++[⟨5,a,n,m⟩],opened:=c.opened.dropLast }):=by simp[Pl.Ct.take,hl,ht,he]
    rw[e];exact q5q w B g t c vp vo h n op cl a k m hk hx p hp he h6 hn
   ·have e:c.take ⟨5,0,n,op,cl⟩ a=(6,c):=by simp[Pl.Ct.take,hl,ht,he]
    rw[e];exact qr6 w B g t c vp vo h n op cl a k m hk hx p hp he h6
 ·exact qtw w B g t c vp vo h n op cl a
 ·exact qwm w B g t c vp vo h n op cl a
theorem qp0(s:ByteArray)(w:World)(hs:s.size<=100000) :
  Calls Tryz.prog 204 #[.string s,.string ⟨#[9,12,13,32]⟩] w fun e w'=>e=.returned (bs (Lib.trimRightS s.data.toList Pl.qdp))/\Below w.heap.size w w':=
 Any.strings_TrimRight_laid Tryz.lays162 (by kernel_rfl) s ⟨#[9,12,13,32]⟩ w (by omega) (by decide) (ascii_of_all (by decide))
theorem qr2(s:ByteArray)(w:World) :
  Calls Tryz.prog 196 #[.string s,.string ⟨#[9,12,13,32]⟩] w fun e w'=>e=.returned (bs (Lib.trimLeftS s.data.toList Pl.qdp))/\Below w.heap.size w w':=
 Any.strings_TrimLeft_laid Tryz.lays161 (by kernel_rfl) s ⟨#[9,12,13,32]⟩ w (by decide) (ascii_of_all (by decide))
theorem qof(s:ByteArray)(w:World) :
  Calls Tryz.prog 196 #[.string s,.string ⟨#[9,10,12,13,32]⟩] w fun e w'=>e=.returned (bs (Lib.trimLeftS s.data.toList Pl.qah))/\Below w.heap.size w w':=
 Any.strings_TrimLeft_laid Tryz.lays161 (by kernel_rfl) s ⟨#[9,10,12,13,32]⟩ w (by decide) (ascii_of_all (by decide))
theorem qwi(s:ByteArray)(w:World)(hs:s.size<=100000) :
  Calls Tryz.prog 150 #[.string s,.string ⟨#[9,10,12,13,32]⟩] w fun e w'=>e=.returned (bs (Lib.trimS s.data.toList Pl.qah))/\Below w.heap.size w w':=
 Any.strings_Trim_laid Tryz.lays160 (by kernel_rfl) s ⟨#[9,10,12,13,32]⟩ w (by omega) (by decide) (ascii_of_all (by decide))
theorem qoh{P:Program}{fn:Func}{R:Ending->World->Prop}{a:Act}{w:World}{t u:Tmp}(h:fn.results=#[.tmp t,.tmp u])(ha:a.defers=[])(x y:Value)(hx:a.tmps.getD t undef=x)(hy:a.tmps.getD u undef=y)(hR:R (.returned (.tuple #[x,y])) w):bodyPost P fn R .ret a w:=by
 subst hx hy;refine bodyPost_ret ?_ ha hR;simp[results,h]
theorem q89(w:World)(B g:Nat)(t:List UInt8)(c:Pl.Ct)(vp vo:Value)(h:CtAt w B g t c vp vo)(a z:Nat)(ha:a<=t.length)(hz:z<=t.length)(_ht:t.length<=2000)
  (X Y:ByteArray) (hT:∀w,Calls Tryz.prog 204 #[.string ((⟨t.toArray⟩:ByteArray).extract 0 a),.string ⟨#[9,12,13,32]⟩] w fun e w'=>e=.returned (.string X)/\Below w.heap.size w w')
  (hL:∀w,Calls Tryz.prog 196 #[.string ((⟨t.toArray⟩:ByteArray).extract z t.length),.string ⟨#[9,12,13,32]⟩] w fun e w'=>e=.returned (.string Y)/\Below w.heap.size w w')
  (hX:X.toList.isEmpty=false) (n:Nat) (hn:X.size=n+1) (He:n<=100000) (hb:∀hh:n<X.size,X[n]'hh≠10)  :
  Calls Tryz.prog 151 #[.pointer (some ⟨g,0,none⟩),.int .i64 a,.int .i64 z] w fun e w'=>e=.returned (.tuple #[.int .i64 a,.int .i64 z])/\Below w.heap.size w w':=by
 obtain⟨T,Ha⟩:∃T,T=(⟨t.toArray⟩:ByteArray):=⟨_,rfl⟩;have hc:T.size=t.length:=by rw[Ha];simp[ByteArray.size]
 rw[<-Ha]at hT hL;have HT:=hd hT;have HL:=hd hL;have b0:=h.cell 0 _ rfl;unfold bs at b0;rw[<-Ha]at b0;have Hb:n<X.size:=by omega
 have d1:¬((X[n]'Hb).toNat:Int)=10:=fun q=>hb Hb (UInt8.toNat_inj.1 (show(X[n]'Hb).toNat=10 by omega));have w1:IntKind.i64.wrap (n:Int)=n:=qh7 n (by omega);clear hb;have H:=hd h;clear hT hL h Ha;rw[<-hc]at ha hz HL;have c1:(a:Int)<=(T.size:Int):=by omega
 have c2:(z:Int)<=(T.size:Int):=by omega
 clear hc;go_enter Tryz.func151,Tryz.ntmps151
 go_wp2_with (first
   |(go_at_call 204;refine Calls.mono (HT.out _) ?_;rintro e w1 ⟨rfl,hb⟩;have b1:w1.cell? ⟨g,0,none⟩=some (.string T):=(World.cell?_of_block (hb.block _ (CtAt.lt H.out))).trans b0;have Hc:=hd hb;clear hb)
   | (go_at_call 196;refine Calls.mono (HL.out _) ?_;rintro e w2 ⟨rfl,hb⟩;have he:=hd hb;clear hb))
 refine qoh Tryz.results151 rfl _ _ rfl rfl ?_;exact⟨rfl,by have h1:=Hc.out;have h2:=he.out;exact h1.trans (h2.mono h1.size)⟩
theorem q88(w:World)(B g:Nat)(t:List UInt8)(c:Pl.Ct)(vp vo:Value)(h:CtAt w B g t c vp vo)(a z:Nat)(ha:a<=t.length)(hz:z<=t.length)(_ht:t.length<=2000)
  (X Y:ByteArray) (hT:∀w,Calls Tryz.prog 204 #[.string ((⟨t.toArray⟩:ByteArray).extract 0 a),.string ⟨#[9,12,13,32]⟩] w fun e w'=>e=.returned (.string X)/\Below w.heap.size w w')
  (hL:∀w,Calls Tryz.prog 196 #[.string ((⟨t.toArray⟩:ByteArray).extract z t.length),.string ⟨#[9,12,13,32]⟩] w fun e w'=>e=.returned (.string Y)/\Below w.heap.size w w')
  (hX:X.toList.isEmpty=true) (hY:Y.toList.isEmpty=false) (hy:0<Y.size) (Hb:Y[0]≠10) :
  Calls Tryz.prog 151 #[.pointer (some ⟨g,0,none⟩),.int .i64 a,.int .i64 z] w fun e w'=>e=.returned (.tuple #[.int .i64 a,.int .i64 z])/\Below w.heap.size w w':=by
 obtain⟨T,Ha⟩:∃T,T=(⟨t.toArray⟩:ByteArray):=⟨_,rfl⟩;have hc:T.size=t.length:=by rw[Ha];simp[ByteArray.size]
 rw[<-Ha]at hT hL;have HT:=hd hT;have HL:=hd hL;have b0:=h.cell 0 _ rfl;unfold bs at b0;rw[<-Ha]at b0;have d2:¬(Y[0].toNat:Int)=10:=fun q=>Hb (UInt8.toNat_inj.1 (show Y[0].toNat=10 by omega));have d3:(0:Int)<(Y.size:Int):=by omega
 clear Hb;have H:=hd h;clear hT hL h Ha;rw[<-hc]at ha hz HL;have c1:(a:Int)<=(T.size:Int):=by omega
 have c2:(z:Int)<=(T.size:Int):=by omega
 clear hc;go_enter Tryz.func151,Tryz.ntmps151
 go_wp2_with (first
   |(go_at_call 204;refine Calls.mono (HT.out _) ?_;rintro e w1 ⟨rfl,hb⟩;have b1:w1.cell? ⟨g,0,none⟩=some (.string T):=(World.cell?_of_block (hb.block _ (CtAt.lt H.out))).trans b0;have Hc:=hd hb;clear hb)
   | (go_at_call 196;refine Calls.mono (HL.out _) ?_;rintro e w2 ⟨rfl,hb⟩;have he:=hd hb;clear hb))
 refine qoh Tryz.results151 rfl _ _ rfl rfl ?_;exact⟨rfl,by have h1:=Hc.out;have h2:=he.out;exact h1.trans (h2.mono h1.size)⟩
theorem q85(w:World)(B g:Nat)(t:List UInt8)(c:Pl.Ct)(vp vo:Value)(h:CtAt w B g t c vp vo)(a z:Nat)(ha:a<=t.length)(hz:z<=t.length)(_ht:t.length<=2000)
  (X Y:ByteArray) (hT:∀w,Calls Tryz.prog 204 #[.string ((⟨t.toArray⟩:ByteArray).extract 0 a),.string ⟨#[9,12,13,32]⟩] w fun e w'=>e=.returned (.string X)/\Below w.heap.size w w')
  (hL:∀w,Calls Tryz.prog 196 #[.string ((⟨t.toArray⟩:ByteArray).extract z t.length),.string ⟨#[9,12,13,32]⟩] w fun e w'=>e=.returned (.string Y)/\Below w.heap.size w w')
  (hX:X.toList.isEmpty=false) (n:Nat) (hn:X.size=n+1) (hf:n<=100000) (hb:∀hh:n<X.size,X[n]'hh=10) (hY:Y.toList.isEmpty=false) (hy:0<Y.size) (Hb:Y[0]≠10) :
  Calls Tryz.prog 151 #[.pointer (some ⟨g,0,none⟩),.int .i64 a,.int .i64 z] w fun e w'=>e=.returned (.tuple #[.int .i64 a,.int .i64 z])/\Below w.heap.size w w':=by
 obtain⟨T,Ha⟩:∃T,T=(⟨t.toArray⟩:ByteArray):=⟨_,rfl⟩;have hc:T.size=t.length:=by rw[Ha];simp[ByteArray.size]
 rw[<-Ha]at hT hL;have HT:=hd hT;have HL:=hd hL;have b0:=h.cell 0 _ rfl;unfold bs at b0;rw[<-Ha]at b0;have Hc:n<X.size:=by omega
 have d1:((X[n]'Hc).toNat:Int)=10:=by rw[hb Hc];rfl
 have w1:IntKind.i64.wrap (n:Int)=n:=qh7 n (by omega);clear hb;have d2:¬(Y[0].toNat:Int)=10:=fun q=>Hb (UInt8.toNat_inj.1 (show Y[0].toNat=10 by omega));have d3:(0:Int)<(Y.size:Int):=by omega
 clear Hb;have H:=hd h;clear hT hL h Ha;rw[<-hc]at ha hz HL;have c1:(a:Int)<=(T.size:Int):=by omega
 have c2:(z:Int)<=(T.size:Int):=by omega
 clear hc;go_enter Tryz.func151,Tryz.ntmps151
 go_wp2_with (first
   |(go_at_call 204;refine Calls.mono (HT.out _) ?_;rintro e w1 ⟨rfl,hb⟩;have b1:w1.cell? ⟨g,0,none⟩=some (.string T):=(World.cell?_of_block (hb.block _ (CtAt.lt H.out))).trans b0;have he:=hd hb;clear hb)
   | (go_at_call 196;refine Calls.mono (HL.out _) ?_;rintro e w2 ⟨rfl,hb⟩;have He:=hd hb;clear hb))
 refine qoh Tryz.results151 rfl _ _ rfl rfl ?_;exact⟨rfl,by have h1:=he.out;have h2:=He.out;exact h1.trans (h2.mono h1.size)⟩
variable{w w0:World}{p:Pl.Sp}{s:ByteArray}{k:Nat}
theorem Pl.spFromSnoc(p:Pl.Sp)(l:List UInt8)(b:UInt8):Pl.qda p (l++[b])=(Pl.qda p l).next b:=by simp[Pl.qda]
theorem Pl.spFromOk(l:List UInt8):∀(p:Pl.Sp) (n:Nat),Pl.SpOk n p->Pl.SpOk (n+l.length) (Pl.qda p l):=by
 induction l with
 |nil=>intro p n h;exact h
 |cons x l ih=>
   intro p n h;have:=ih _ _ (Pl.q8w h x);rw[show n+(x::l).length=n+1+l.length by simp;omega];exact this
def Pl.wrongFrom(p:Pl.Sp)(g:Int)(i:Nat):List UInt8->Int
 |[]=>g
 |b::l=>Pl.wrongFrom (p.next b) (if g<0/\b=58/\p.view.link=4 then i else g) (i+1) l
theorem Pl.wrongFrom_snoc(l:List UInt8):∀(p:Pl.Sp) (g:Int) (i:Nat) (b:UInt8),Pl.wrongFrom p g i (l++[b])=if Pl.wrongFrom p g i l<0/\b=58/\(Pl.qda p l).view.link=4 then((i+l.length:Nat):Int)else Pl.wrongFrom p g i l:=by
 induction l with
 |nil=>intro p g i b;rfl
 |cons x l ih=>
   intro p g i b;show Pl.wrongFrom (p.next x) _ (i+1) (l++[b])=_;rw[ih,show i+1+l.length=i+(x::l).length by simp;omega];rfl
theorem qnd{g:Nat}(h:SpAt w g p)(hg:g<w.heap.size)(o:Obj):SpAt (w.alloc o) g p:=h.kept ((Below.refl _ w).alloc (Nat.le_refl _) o) hg
structure ThRound(w0 w:World)(p:Pl.Sp)(s:ByteArray)(k:Nat):Prop where
 at':SpAt w w0.heap.size (Pl.qda p (s.data.toList.take k))
 slot:qfn w w0.heap.size
 res:qfn w (w0.heap.size+1)
 below:Below w0.heap.size w0 w
 far:w0.heap.size+1<w.heap.size
theorem ThRound.spot(h:ThRound w0 w p s k){w2:World}(hb:Below w.heap.size w w2):ThRound w0 w2 p s k:=
 ⟨h.at'.kept hb h.slot.lt,h.slot.kept hb h.slot.lt,h.res.kept hb h.far,h.below.trans (hb.mono (Nat.le_of_lt (Nat.lt_of_le_of_lt (Nat.le_succ _) h.far))),Nat.lt_of_lt_of_le h.far hb.size⟩
theorem ThRound.set(h:ThRound w0 w p s k)(Y:Pl.Sp)(hY:Pl.qda p (s.data.toList.take (k+1))=Y) :
  ThRound w0 (set6 w w0.heap.size (.int .i64 Y.mode) (.string ⟨Y.tag.toArray⟩) (.string ⟨Y.attr.toArray⟩) (.string ⟨Y.inside.toArray⟩) (.string ⟨Y.run.toArray⟩) (.int .i64 Y.far)) p s (k+1):=by
 have hb:=qbx (Below.refl w0.heap.size w) (Nat.le_refl _) (.int .i64 Y.mode) (.string ⟨Y.tag.toArray⟩) (.string ⟨Y.attr.toArray⟩) (.string ⟨Y.inside.toArray⟩) (.string ⟨Y.run.toArray⟩) (.int .i64 Y.far);have hc:=qj0 h.slot (.int .i64 Y.mode) (.string ⟨Y.tag.toArray⟩) (.string ⟨Y.attr.toArray⟩) (.string ⟨Y.inside.toArray⟩) (.string ⟨Y.run.toArray⟩) (.int .i64 Y.far);refine⟨by rw[hY];exact⟨hc 0 _ rfl,hc 1 _ rfl,hc 2 _ rfl,hc 3 _ rfl,hc 4 _ rfl,hc 5 _ rfl⟩,q0m h.slot _ _ _ _ _ _,?_,h.below.trans hb,Nat.lt_of_lt_of_le h.far hb.size⟩;obtain⟨cs,t,hg,hn⟩:=h.res;refine⟨cs,t,?_,hn⟩;unfold set6;have ne:∀j,w0.heap.size+1≠(⟨w0.heap.size,j,none⟩:Addr).block:=fun j=>by show w0.heap.size+1≠w0.heap.size;omega
 rw[Below.heap_setCell _ _ _ _ (ne 5),Below.heap_setCell _ _ _ _ (ne 4),Below.heap_setCell _ _ _ _ (ne 3),Below.heap_setCell _ _ _ _ (ne 2),Below.heap_setCell _ _ _ _ (ne 1),Below.heap_setCell _ _ _ _ (ne 0)];exact hg
theorem ThRound.drew(h:ThRound w0 w p s k):ThRound w0 w.drew p s k:=⟨⟨h.at'.mode,h.at'.tag,h.at'.attr,h.at'.inside,h.at'.run,h.at'.far⟩,h.slot.drew,h.res.drew,h.below.drew,h.far⟩
theorem qiv{P:Program}{fn:Func}{u p:Tmp}{ty:TypeId}(h:fn.results=#[.cell p ty,.tmp u])(tmps:Array Value)(w:World)(g:Nat)(cs:Array Value)(d:TypeDesc)(hp:tmps.getD p undef=.pointer (some ⟨g,0,none⟩))
  (hg:∀j v,cs.toList[j]?=some v->w.cell? ⟨g,j,none⟩=some v)
  (hu:P.underlying ty=some d) (hd:aggD d=true) (hi:(P.info? ty).map (·.size)=some cs.size) :
  (results fn tmps).run P w=.ok (.tuple #[.agg cs,tmps.getD u undef]) w:=by
 have hl:=qbl (P:=P) w g ty cs d hg hu (by cases d<;>first|rfl|cases hd) hi
 rw[Array.getD_eq_getD_getElem?]at hp;simp only[results,h];simp[hp,asAddr,hl]
theorem behC(HB:qg9)(S:List Pl.Src)(hS:SrcsOk S):∀k,BehC S k:=by
 intro k
 induction k with
 |zero=>
   intro w B F vv s n x h ho hk;have:=ho.few;omega
 |succ k ih=>
   intro w B F vv s n x h ho hk hx hn ht;have hB:B<=w.heap.size:=by
    have h1:=h.le.1;have h2:=(lta h.blk);omega
   unfold Pl.behV;by_cases h0:Pl.qai S n=0
   ·rw[if_pos h0]
    exact qtg S hS w B F vv s n x h hn hB h0
   rw[if_neg h0];cases hy:Pl.qa1 s.ends (Pl.qai S n,x)with
   |some y=>exact qvu S hS w B F vv s n x h ho hx hn hB ht h0 y hy
   |none=>
     simp only;by_cases hf:s.ends.length=256
     ·rw[if_pos hf]
      exact qyg S hS w B F vv s n x h ho hx hn hB ht h0 hy hf
     ·rw[if_neg hf]
      exact q1y HB S hS k ih w B F vv s n x h ho hx hn hB ht h0 hy hk hf _ rfl
theorem q6e(HB:qg9)(S:List Pl.Src)(hS:SrcsOk S)(k:Nat)(HT:ThrC S k)(w:World)(B:Nat)(F:Fix)(vv:Value)(M:List Nat)(s:Pl.Sr)(n:List UInt8)(x:Pl.Sx)(h:SvAt w B F S vv M s)(hI:Pl.Inv S s)(h1:1<=s.nums.length)(hk:258<=s.nums.length+k)(hx:Pl.SxFit x)(hn:n.length<=2000)(ht:TabB B w) :
  Calls Tryz.prog 110 #[.pointer (some ⟨F.g,0,none⟩),.string ⟨n.toArray⟩,qap x] w fun ed w'=>ed=.returned (.tuple #[.int .i64 ((Pl.nmV S k s n x).2.1:Nat),qap (Pl.nmV S k s n x).2.2])/\(∃vv' ext,SvAt w' B F S vv' (M++ext) (Pl.nmV S k s n x).1)/\Cuv B F w w':=by
 have hB:B<=w.heap.size:=by
  have q1:=h.se.le.1;have q2:=(lta h.se.blk);omega
 have Ha:=fun(w5:World) (h5:SvAt w5 B F S vv M s) (Ho:TabB B w5)=>behC HB S hS 257 w5 B F vv s n x h5.se hI.ends (by omega) hx hn Ho;obtain⟨g1,g2⟩:=Pl.qgd S 257 0 (by omega) s n x hI.ends (Nat.zero_le _) hx;obtain⟨i1,i2⟩:=hI.grew g1;have Hi:=fun q0 qf qz=>Pl.qy5 (n:=n) hI h1 hx q0 qf qz
 have hm:Pl.nmV S k s n x=if Pl.qai S n=0\/(Pl.behV S 257 s n x).1.fault.code≠0 then((Pl.behV S 257 s n x).1,0,(Pl.behV S 257 s n x).2)
  else if Pl.qg1 (Pl.behV S 257 s n x).1 (Pl.qai S n,x)=0 then(Pl.qfs S k (Pl.behV S 257 s n x).1 (Pl.qai S n,x),Pl.qg1 (Pl.qfs S k (Pl.behV S 257 s n x).1 (Pl.qai S n,x)) (Pl.qai S n,x),(Pl.behV S 257 s n x).2)
  else((Pl.behV S 257 s n x).1,Pl.qg1 (Pl.behV S 257 s n x).1 (Pl.qai S n,x),(Pl.behV S 257 s n x).2):=rfl
 generalize Pl.nmV S k s n x=res at hm |-;generalize Pl.behV S 257 s n x=r at *;obtain⟨s1,y⟩:=r;simp only at Ha g1 g2 i1 i2 Hi hm;have hj:∀(w5:World) (B:Nat) (F:Fix) (vv:Value),SeAt w5 B F S vv s1->(Instr.lookup 174 (.map (some F.bp)) (.string ⟨n.toArray⟩) false).run Tryz.prog w5=.ok (.int .i64 (Pl.qai S n:Nat)) w5:=fun w5 B F vv h5=>h5.place hS n (by omega);have Hp:Pl.qai S n<=6:=by
  by_cases q:Pl.qai S n=0
  ·omega
  ·have:=Pl.qe4 S n q;have:=hS.few;omega
 have Hs:=fun(w5:World) (vv5:Value) (M5:List Nat) (h5:SvAt w5 B F S vv5 M5 s1) (hp:Pl.Pre S s1 (Pl.qai S n,x)) (Ho:TabB B w5)=>HT w5 B F vv5 M5 s1 (Pl.qai S n,x) h5 hp (by rw[g1.nums];omega) Ho;have Hk:=fun hp=>Pl.qr5 S k s1 (Pl.qai S n,x) hp (by rw[g1.nums];omega);generalize hi:Pl.qai S n=i at *;generalize (⟨n.toArray⟩:ByteArray)=N at Ha hj |-;unfold qap qaf bs at Ha;have hv:=hd Ha;have Hg:=hd hm;have Hb:=hd Hi;have hc:=hd Hs;have Hc:=hd Hk;have Hm:=hd i1;have HS:=hd h;have Ht:=hd hj;have HG:=hd g1;have Hv:Hid (∀o o' w2,SeAt w2 B F S vv s1->Cue B F ((w.alloc o).alloc o') w2->SvAt w2 B F S vv M s1/\Cuv B F w w2/\TabB B w2):=fun o o' w2 Hn He=>by
  have q1:=((h.alloc o).alloc o');have q2:Below w.heap.size w ((w.alloc o).alloc o'):=(ba _).alloc (by simp) _;exact⟨q1.turn Hn He g1.nums g1.vis,(Cuv.of_below q2 hB).trans (Cuv.of_cue q1.se He),(ht.kept (q2.mono hB)).kept He.below⟩
 clear h Ha hm Hi Hs Hk i1 i2 g1 hj hI hk h1;unfold qap;unfold qaf bs;go_enter Tryz.func110,Tryz.ntmps110
 go_wp2_with (go_at_call 156;refine(hv.out _ ((HS.out.alloc _).alloc _) (ht.kept (((Below.refl _ _).alloc hB _).alloc (by simp;omega) _))).mono ?_;rintro e w2 ⟨rfl,Hn,He⟩)
 have H8:=hd (Hv.out _ _ w2 Hn He);have hu:StIn w2 w.heap.size x:=(He.keep w.heap.size (by simp;omega) (fun q=>by have:=(lta HS.out.se.blk);omega) (fun q=>by have:=HS.out.se.ends.lt;omega)).trans ((heap_alloc_old _ _ (by simp)).trans (heap_alloc_new w _));have Hq:StIn w2 (w.heap.size+1) Pl.Sx.none:=(He.keep (w.heap.size+1) (by simp) (fun q=>by have:=(lta HS.out.se.blk);omega) (fun q=>by have:=HS.out.se.ends.lt;omega)).trans (qal (w.alloc _) _ _ (by simp));have Hr:w.heap.size+1<w2.heap.size:=Hq.lt;have H3:Hid (SvAt (w2.alloc (.cells (qaf y) 162)) B F S vv M s1/\StIn (w2.alloc (.cells (qaf y) 162)) w2.heap.size y/\StIn (w2.alloc (.cells (qaf y) 162)) (w.heap.size+1) Pl.Sx.none/\StIn (w2.alloc (.cells (qaf y) 162)) w.heap.size x/\Cuv B F w (w2.alloc (.cells (qaf y) 162))/\TabB B (w2.alloc (.cells (qaf y) 162))):=by
  have hb:=(Below.refl w2.heap.size w2).alloc (Nat.le_refl _) (.cells (qaf y) 162);have hl:B<=w2.heap.size:=Nat.le_trans hB H8.out.2.1.below.size;exact⟨H8.out.1.alloc _,heap_alloc_new w2 _,Hq.below hb,hu.below hb,H8.out.2.1.trans (Cuv.of_below hb hl),H8.out.2.2.kept (hb.mono hl)⟩
 have hw:w2.heap.size≠w.heap.size+1:=by omega
 unfold qaf bs at H3;clear Hn He H8 hu Hq Hr;generalize hG:w2.heap.size=G at *;generalize World.alloc w2 _=w3 at H3 |-;clear hG;have b1:w3.cell? ⟨F.g,1,none⟩=some (.map (some F.bp)):=H3.out.1.se.cell 1 _ rfl;have b2:∀o,(w3.alloc o).cell? ⟨F.g,1,none⟩=some (.map (some F.bp)):=fun o=>(H3.out.1.se.alloc o).cell 1 _ rfl;have l1:=Ht.out w3.drew B F vv H3.out.1.se.drew;have l2:=fun o=>Ht.out (w3.alloc o).drew B F vv (H3.out.1.se.alloc o).drew;have hq:=H3.out.2.2.2.1.at';have Hf:=fun o=>(H3.out.2.2.2.1.below (ba o)).at';have q0:=hq.mode;have q1:=hq.name;have q2:=hq.elem;have q3:=hq.kind;have q4:=hq.read;have q5:=hq.ref;have q6:=hq.esc;have q7:=hq.hex;have q8:=hq.pct;have q9:=hq.far;have g0:=fun o=>(Hf o).mode;have g1:=fun o=>(Hf o).name;have g2:=fun o=>(Hf o).elem;have g3:=fun o=>(Hf o).kind;have g4:=fun o=>(Hf o).read;have g5:=fun o=>(Hf o).ref;have g6:=fun o=>(Hf o).esc;have g7:=fun o=>(Hf o).hex;have g8:=fun o=>(Hf o).pct;have g9:=fun o=>(Hf o).far;clear hq Hf;go_region
 clear b1 b2 l1 l2 q0 q1 q2 q3 q4 q5 q6 q7 q8 q9 g0 g1 g2 g3 g4 g5 g6 g7 g8 g9;have H4:Hid (Nmi w ((w3.alloc (.cells (qao (i,x)) 180)).drew) B F S vv M s1 G y (w.heap.size+1) Pl.Sx.none w3.heap.size (i,x)):=by
  have hb:=((Below.refl w3.heap.size w3).alloc (Nat.le_refl _) (.cells (qao (i,x)) 180)).drew;have hl:B<=w3.heap.size:=Nat.le_trans hB H3.out.2.2.2.2.1.below.size;exact⟨H3.out.1.below hb,H3.out.2.1.below hb,H3.out.2.2.1.below hb,hw,heap_alloc_new w3 _,⟨by omega,hB⟩,H3.out.2.2.2.2.1.trans (Cuv.of_below hb hl),H3.out.2.2.2.2.2.kept (hb.mono hl)⟩
 unfold qao bs at H4;clear H3;generalize hE:w3.heap.size=E at *;generalize World.drew _=w4 at H4 |-;clear hE;have he:=qcn H4.out.ent;unfold qao bs at he;have hf:=H4.out.end'.at';have hr:=H4.out.res;have m0:=he 0 _ rfl;have m1:=he 1 _ rfl;have m2:=he 2 _ rfl;have m3:=he 3 _ rfl;have m4:=he 4 _ rfl;have m5:=he 5 _ rfl;have m6:=he 6 _ rfl;have m7:=he 7 _ rfl;have m8:=he 8 _ rfl;have m9:=he 9 _ rfl;have m10:=he 10 _ rfl;have q0:=hf.mode;have q1:=hf.name;have q2:=hf.elem;have q3:=hf.kind;have q4:=hf.read;have q5:=hf.ref;have q6:=hf.esc;have q7:=hf.hex;have q8:=hf.pct;have q9:=hf.far;have r0:=hr.at'.mode;have r1:=hr.at'.name;have r2:=hr.at'.elem;have r3:=hr.at'.kind;have r4:=hr.at'.read;have r5:=hr.at'.ref;have r6:=hr.at'.esc;have r7:=hr.at'.hex;have r8:=hr.at'.pct;have r9:=hr.at'.far;have f0:=hr.slot.thaw 0;have f1:=hr.slot.thaw 1;have f2:=hr.slot.thaw 2;have f3:=hr.slot.thaw 3;have f4:=hr.slot.thaw 4;have f5:=hr.slot.thaw 5;have f6:=hr.slot.thaw 6;have f7:=hr.slot.thaw 7;have f8:=hr.slot.thaw 8;have f9:=hr.slot.thaw 9;clear he hf hr;have b5:w4.cell? ⟨F.g,5,none⟩=some (.int .i64 (s1.fault.code:Nat)):=H4.out.sv.se.cell 5 _ rfl;by_cases hA:i=0
 ·have hR:res=(s1,0,y):=by rw[Hg.out,if_pos (.inl hA)]
  have i0:((i:Int)==0)=true:=by rw[beq_iff_eq];omega
  have HF:=(show Hid _ from(H4.out.set y).drew);clear Hg Hb hc Hc;subst hR;unfold qcs at HF;go_wp2_with fail
  go_region
  go_wp2_with fail
  refine Nmi.post (ext:=[]) (by rw[List.append_nil];exact HF.out) ?_ ?_ ?_
  all_goals rfl
 have i0:((i:Int)==0)=false:=by rw[beq_eq_false_iff_ne];omega
 by_cases Hw:s1.fault.code≠0
 ·have hR:res=(s1,0,y):=by rw[Hg.out,if_pos (.inr Hw)]
  have f0:((s1.fault.code:Int)==0)=false:=by rw[beq_eq_false_iff_ne];omega
  have HF:=(show Hid _ from(H4.out.set y).drew);clear Hg Hb hc Hc;subst hR;generalize (s1.fault.code:Int)=fc at b5 f0;unfold qcs at HF;go_wp2_with fail
  go_region
  go_wp2_with fail
  refine Nmi.post (ext:=[]) (by rw[List.append_nil];exact HF.out) ?_ ?_ ?_
  all_goals rfl
 have ho:s1.fault.code=0:=by omega
 rw[ho]at b5;have b3:w4.cell? ⟨F.g,3,none⟩=some (.map (some F.bn)):=H4.out.sv.se.cell 3 _ rfl;have l5:=qoy H4.out.sv.drew.nums ⟨Hm.out.key,Hm.out.one⟩ hS.few.2 (i,x) hx Hp;simp only[qbi]at l5;unfold qao bs at l5;simp only at l5;have ha:(Pl.qa1 s1.nums (i,x)).getD 0=Pl.qg1 s1 (i,x):=rfl;rw[ha]at l5;by_cases hz:Pl.qg1 s1 (i,x)=0
 rotate_left
 ·have hR:res=(s1,Pl.qg1 s1 (i,x),y):=by rw[Hg.out,if_neg (by simp[hA,ho]),if_neg hz]
  have z0:((Pl.qg1 s1 (i,x):Int)==0)=false:=by rw[beq_eq_false_iff_ne];omega
  have HF:=(show Hid _ from((H4.out.set y).drew.drew));clear Hg Hb hc Hc ha hz;subst hR;have l6:=qoy H4.out.drew.sv.drew.nums ⟨Hm.out.key,Hm.out.one⟩ hS.few.2 (i,x) hx Hp;simp only[qbi]at l6;unfold qao bs at l6;simp only at l6;have ha:(Pl.qa1 s1.nums (i,x)).getD 0=Pl.qg1 s1 (i,x):=rfl;rw[ha]at l6;clear ha;unfold qcs at HF;go_wp2_with fail
  go_region
  go_wp2_with fail
  go_region
  go_wp2_with fail
  refine Nmi.post (ext:=[]) (by rw[List.append_nil];exact HF.out) ?_ ?_ ?_
  all_goals rfl
 have hp:Pl.Pre S s1 (i,x):=Hb.out hA ho hz;have hR:res=(Pl.qfs S k s1 (i,x),Pl.qg1 (Pl.qfs S k s1 (i,x)) (i,x),y):=by rw[Hg.out,if_neg (by simp[hA,ho]),if_pos hz]
 rw[hz]at l5;have Hj:=hc.out w4.drew vv M H4.out.drew.sv hp H4.out.drew.tabs;have hg:=Hc.out hp;clear Hg Hb hc Hc ha hz hp;subst hR;obtain⟨s2,hs⟩:∃s2,s2=Pl.qfs S k s1 (i,x):=⟨_,rfl⟩;rw[<-hs]at Hj hg;have Hx:=hd hs;clear hs;have Hl:∀(w5:World) (vv5:Value) (M5:List Nat),SvAt w5 B F S vv5 M5 s2->(Instr.lookup 176 (.map (some F.bn)) (qf9 (i,x)) false).run Tryz.prog w5=.ok (.int .i64 (Pl.qg1 s2 (i,x):Nat)) w5:=fun w5 vv5 M5 h5=>qoy h5.nums ⟨hg.1.key,hg.1.one⟩ hS.few.2 (i,x) hx Hp;simp only[qbi]at Hj Hl;unfold qao bs at Hj Hl;simp only at Hj Hl;have hy:=hd Hj;have Hy:=hd Hl;clear Hj Hl hg;go_wp2_with fail
 go_region
 go_wp2_with (go_at_call 75;refine Calls.mono hy.out ?_;rintro e w6 ⟨⟨rr,rfl⟩,⟨vv6,ext,Hu⟩,He⟩)
 have H6:=hd (H4.out.drew.turn Hu He);clear Hu He b3 b5 l5 m0 m1 m2 m3 m4 m5 m6 m7 m8 m9 m10 q0 q1 q2 q3 q4 q5 q6 q7 q8 q9 r0 r1 r2 r3 r4 r5 r6 r7 r8 r9 f0 f1 f2 f3 f4 f5 f6 f7 f8 f9;have b3:w6.cell? ⟨F.g,3,none⟩=some (.map (some F.bn)):=H6.out.sv.se.cell 3 _ rfl;have l7:=Hy.out w6.drew vv6 (M++ext) H6.out.sv.drew;have he:=qcn H6.out.ent;unfold qao bs at he;have hf:=H6.out.end'.at';have hr:=H6.out.res;have m0:=he 0 _ rfl;have m1:=he 1 _ rfl;have m2:=he 2 _ rfl;have m3:=he 3 _ rfl;have m4:=he 4 _ rfl;have m5:=he 5 _ rfl;have m6:=he 6 _ rfl;have m7:=he 7 _ rfl;have m8:=he 8 _ rfl;have m9:=he 9 _ rfl;have m10:=he 10 _ rfl;have q0:=hf.mode;have q1:=hf.name;have q2:=hf.elem;have q3:=hf.kind;have q4:=hf.read;have q5:=hf.ref;have q6:=hf.esc;have q7:=hf.hex;have q8:=hf.pct;have q9:=hf.far;have r0:=hr.at'.mode;have r1:=hr.at'.name;have r2:=hr.at'.elem;have r3:=hr.at'.kind;have r4:=hr.at'.read;have r5:=hr.at'.ref;have r6:=hr.at'.esc;have r7:=hr.at'.hex;have r8:=hr.at'.pct;have r9:=hr.at'.far;have f0:=hr.slot.thaw 0;have f1:=hr.slot.thaw 1;have f2:=hr.slot.thaw 2;have f3:=hr.slot.thaw 3;have f4:=hr.slot.thaw 4;have f5:=hr.slot.thaw 5;have f6:=hr.slot.thaw 6;have f7:=hr.slot.thaw 7;have f8:=hr.slot.thaw 8;have f9:=hr.slot.thaw 9;clear he hf hr;have HF:=(show Hid _ from(H6.out.set y).drew);rw[Hx.out]at HF l7;unfold qcs at HF;go_wp2_with fail
 go_region
 go_wp2_with fail
 refine Nmi.post (ext:=ext) HF.out ?_ ?_ ?_
 all_goals rfl
def qfm(b:Pl.Sx×Nat):List Value:=[.int .u8 (b.1.st.mode:Int),bs b.1.st.name,bs b.1.st.elem,.int .i64 b.1.st.kind,.int .i64 (b.1.st.read:Int),.bool b.1.ma.ref,.bool b.1.st.esc,.int .i64 b.1.ma.hex,.int .i64 b.1.ma.pct,.int .i64 b.1.ma.far,.int .i64 (b.2:Nat)]
def qge(L:List (Pl.Sx×Nat)):List Value:=L.flatMap qfm
theorem qpq(L:List (Pl.Sx×Nat)):(qge L).length=L.length*11:=by
 induction L with
 |nil=>rfl
 |cons p L ih=>show(qge L).length+11=_;rw[ih,List.length_cons];omega
theorem qne(L:List (Pl.Sx×Nat))(b:Pl.Sx×Nat):qge (L++[b])=qge L++qfm b:=by simp[qge]
theorem qri:∀(L:List (Pl.Sx×Nat)) (k:Nat) (b:Pl.Sx×Nat),L[k]?=some b->∀(j:Nat) (v:Value),(qfm b)[j]?=some v->(qge L)[k*11+j]?=some v
 |[],k,p,e=>by simp at e
 |q::L,0,p,e=>by
   simp only[List.getElem?_cons_zero,Option.some.injEq]at e;subst e;intro j v hv;show(qfm q++qge L)[0*11+j]?=some v;rw[Nat.zero_mul,Nat.zero_add,List.getElem?_append_left (List.getElem?_eq_some_iff.1 hv).1];exact hv
 |q::L,k+1,p,e=>by
   intro j v hv;have:=qri L k p (by simpa using e) j v hv;show(qfm q++qge L)[(k+1)*11+j]?=some v;rw[List.getElem?_append_right (by simp[qfm];omega)];have e:(k+1)*11+j - (qfm q).length=k*11+j:=by simp[qfm];omega
   rw[e];exact this
theorem qpz:(234:TypeId)≠178:=by decide
theorem qr1:(234:TypeId)≠162:=by decide
structure Thi(w wr:World)(B:Nat)(F:Fix)(S:List Pl.Src)(vv:Value)(M:List Nat)(s:Pl.Sr)(E:Nat)(e:Pl.En)(v g len:Nat)(G:Nat)(x:Pl.Sx)(vb:Value)(L:List (Pl.Sx×Nat)):Prop where
 sv:SvAt wr B F S vv M s
 ent:wr.heap[E]?=some (.cells (qao e) 180 (0,0))
 now:StIn wr G x
 mks:M[v]?=some g
 vis:∃u,s.vis[v]?=some u/\u.2.length=len
 row:wr.ownsRow w.heap.size 234 11 vb L.length (qge L)
 old:w.heap.size<=G/\B<=w.heap.size
 cuv:Cuv B F w wr
 tabs:TabB B wr
section
variable {w wr w':World}{B:Nat}{F:Fix}{S:List Pl.Src}{vv vv':Value}{M M':List Nat}{s s':Pl.Sr}{E:Nat}{e:Pl.En}{v g len G:Nat}{x:Pl.Sx}{vb:Value}{L:List (Pl.Sx×Nat)}
theorem Thi.below(h:Thi w wr B F S vv M s E e v g len G x vb L)(hb:Below wr.heap.size wr w'):Thi w w' B F S vv M s E e v g len G x vb L:=
 have hB:B<=wr.heap.size:=Nat.le_trans h.old.2 h.cuv.below.size
 ⟨h.sv.below hb,(hb.block _ (Array.getElem?_eq_some_iff.1 h.ent).1).trans h.ent,h.now.below hb,h.mks,h.vis,qac h.row fun k hk=>hb.block k (h.row.lt k hk).2,h.old,h.cuv.trans (Cuv.of_below hb hB),h.tabs.kept (hb.mono hB)⟩
theorem Thi.alloc(h:Thi w wr B F S vv M s E e v g len G x vb L)(o:Obj):Thi w (wr.alloc o) B F S vv M s E e v g len G x vb L:=h.below (ba o)
theorem Thi.drew(h:Thi w wr B F S vv M s E e v g len G x vb L):Thi w wr.drew B F S vv M s E e v g len G x vb L:=h.below (Below.refl _ _).drew
theorem Thi.drewN(h:Thi w wr B F S vv M s E e v g len G x vb L)(n:Nat):Thi w (wr.drewN n) B F S vv M s E e v g len G x vb L:=h.below (qay (Below.refl _ _) n)
theorem Thi.turn(h:Thi w wr B F S vv M s E e v g len G x vb L){ext:List Nat}(hs:SvAt w' B F S vv' (M++ext) s')(hc:Cuv B F wr w')(hg:Pl.Gv s s'):Thi w w' B F S vv' (M++ext) s' E e v g len G x vb L:=by
 have k1:=hc.keep G _ _ _ h.now (qae h.now h.sv.se.blk qb1) (by decide) (by decide);have k3:=hc.keep E _ _ _ h.ent (qae h.ent h.sv.se.blk qb2) (by decide) (by decide);refine⟨hs,k3.trans h.ent,k1.trans h.now,?_,?_,qac h.row fun k hk=>?_,h.old,h.cuv.trans hc,h.tabs.kept hc.below⟩
 ·rw[List.getElem?_append_left (List.getElem?_eq_some_iff.1 h.mks).1];exact h.mks
 ·obtain⟨u,h1,h2⟩:=h.vis
  obtain⟨u',e1,_,e3⟩:=hg.vis v u h1;exact⟨u',e1,e3.trans h2⟩
 ·obtain⟨cur,ha⟩:=qad h.row k hk
  exact hc.keep k _ _ _ ha (qae ha h.sv.se.blk qpz) (by decide) (by decide)
theorem Thi.set(h:Thi w wr B F S vv M s E e v g len G x vb L)(y:Pl.Sx):Thi w (qcs wr G (.int .u8 (y.st.mode:Int)) (.string ⟨y.st.name.toArray⟩) (.string ⟨y.st.elem.toArray⟩) (.int .i64 y.st.kind) (.int .i64 (y.st.read:Int)) (.bool y.ma.ref) (.bool y.st.esc) (.int .i64 y.ma.hex) (.int .i64 y.ma.pct) (.int .i64 y.ma.far)) B F S vv M s E e v g len G y vb L:=by
 have ha:=fun k (hk:k≠G)=>qgy (w:=wr) hk (.int .u8 (y.st.mode:Int)) (.string ⟨y.st.name.toArray⟩) (.string ⟨y.st.elem.toArray⟩) (.int .i64 y.st.kind) (.int .i64 (y.st.read:Int)) (.bool y.ma.ref) (.bool y.st.esc) (.int .i64 y.ma.hex) (.int .i64 y.ma.pct) (.int .i64 y.ma.far);have Ha:Below G wr (qcs wr G (.int .u8 (y.st.mode:Int)) (.string ⟨y.st.name.toArray⟩) (.string ⟨y.st.elem.toArray⟩) (.int .i64 y.st.kind) (.int .i64 (y.st.read:Int)) (.bool y.ma.ref) (.bool y.st.esc) (.int .i64 y.ma.hex) (.int .i64 y.ma.pct) (.int .i64 y.ma.far)):=qei (Below.refl _ _) (Nat.le_refl _) _ _ _ _ _ _ _ _ _ _;have hs:=h.now.set y;generalize qcs wr G _ _ _ _ _ _ _ _ _ _=w' at ha Ha hs |-;have hB:=Ha.mono (Nat.le_trans h.old.2 h.old.1);refine⟨h.sv.far h.now ha,(ha _ (qae h.ent h.now qhk)).trans h.ent,hs,h.mks,h.vis,qac h.row fun k hk=>ha k ?_,h.old,⟨h.cuv.below.trans hB,fun k cs t fz hk h1 h2 h3=>(ha k (fun e=>?_)).trans (h.cuv.keep k cs t fz hk h1 h2 h3)⟩,h.tabs.kept hB⟩
 ·obtain⟨cur,hb⟩:=qad h.row k hk
  exact qae hb h.now qr1
 ·have:=(Array.getElem?_eq_some_iff.1 hk).1
  have:=h.old.1;omega
theorem Thi.mark(h:Thi w wr B F S vv M s E e v g len G x vb L)(a:Nat)(m:Int):Thi w (wr.setCell ⟨g,a,none⟩ (.int .i64 m)) B F S vv M (s.mark v a m) E e v g len G x vb L:=by
 obtain⟨h1,h2⟩:=h.sv.mark h.mks a m;have:=h.turn (ext:=[]) (by rw[List.append_nil];exact h1) h2 (Pl.Gv.mark s v a m)
 rwa [List.append_nil]at this
theorem Thi.cell(h:Thi w wr B F S vv M s E e v g len G x vb L)(a:Nat)(ha:a<len):(∃z,wr.cell? ⟨g,a,none⟩=some (.int .i64 z))/\wr.frozen? ⟨g,a,none⟩=false:=by
 obtain⟨u,h1,h2⟩:=h.vis;obtain⟨hb,_⟩:=h.sv.marks v g u h.mks h1;refine⟨⟨u.2[a]'(by omega),?_⟩,by simp[World.frozen?,hb]⟩;refine qaa hb a _ ?_;simp[qf7]
theorem Thi.push(h:Thi w wr B F S vv M s E e v g len G x vb L){w0:World}{vb':Value}(b:Pl.Sx×Nat)(hf:Below wr.heap.size wr w0)(hc:w'.ownsRow w.heap.size 234 11 vb' (L.length+1) (qge L++qfm b))(ha:w0.grownBy w' vb.ownBlock):Thi w w' B F S vv M s E e v g len G x vb' (L++[b]):=by
 have h0:=h.below hf;have Ha:∀(k:Nat) (cs:Array Value) (t:TypeId) (fz:Nat×Nat),w0.heap[k]?=some (.cells cs t fz)->t≠234->w'.heap[k]?=w0.heap[k]?:=fun k cs t fz hk ht=>ha.block k (Array.getElem?_eq_some_iff.1 hk).1 (fun e=>by
  obtain⟨cur,Hc⟩:=qad h0.row k e.symm;exact qae hk Hc ht rfl)
 have he:∀b Lm,qfa w0 b Lm->w'.heap[b]?=w0.heap[b]?:=fun b Lm hm=>ha.block b hm.lt (fun e=>by
  obtain⟨cur,Hc⟩:=qad h0.row b e.symm;exact qak Hc hm rfl)
 have hb:∀k,vb.ownBlock=some k->w.heap.size<=k:=fun k hk=>(h0.row.lt k hk).1;obtain⟨cs',fz',Hf⟩:=h0.sv.se.src.blk;have hg:SeAt w' B F S vv s:=by
  refine⟨(Ha _ _ _ _ h0.sv.se.blk (by decide)).trans h0.sv.se.blk,h0.sv.se.src.kept (Ha _ _ _ _ Hf (by decide)) (fun i s' q hs hv=>?_),h0.sv.se.places.heap (he _ _ h0.sv.se.places),h0.sv.se.ends.heap (he _ _ h0.sv.se.ends),h0.sv.se.le,h0.sv.se.apart⟩;obtain⟨cur,He⟩:=qad (h0.sv.se.src.row i s' hs) q hv;exact Ha _ _ _ _ He (by decide)
 have Hg:SvAt w' B F S vv M s:=by
  refine⟨hg,h0.sv.nums.heap (he _ _ h0.sv.nums),qac h0.sv.row fun k hk=>?_,h0.sv.len,fun i g v hi hv=>?_,h0.sv.one,h0.sv.apart⟩
  ·obtain⟨cur,He⟩:=qad h0.sv.row k hk
   exact Ha _ _ _ _ He (by decide)
  ·obtain⟨q1,q2⟩:=h0.sv.marks i g v hi hv
   exact⟨(Ha _ _ _ _ q1 (by decide)).trans q1,q2⟩
 have Hb:Below w.heap.size w0 w':=⟨ha.os,ha.tape,ha.output,ha.size,fun k hk=>ha.block k (by have:=h0.cuv.below.size;omega) (fun e=>by have:=hb k e.symm;omega)⟩;refine⟨Hg,(Ha _ _ _ _ h0.ent (by decide)).trans h0.ent,(Ha _ _ _ _ h0.now (by decide)).trans h0.now,h0.mks,h0.vis,?_,h0.old,⟨h0.cuv.below.trans (Hb.mono h0.old.2),fun k cs t fz hk h1 h2 h3=>?_⟩,h0.tabs.kept (Hb.mono h0.old.2)⟩
 ·rw[List.length_append,qne];exact hc
 ·have Hi:=(Array.getElem?_eq_some_iff.1 hk).1
  exact(ha.block k (by have:=h0.cuv.below.size;omega) (fun e=>by have:=hb k e.symm;omega)).trans (h0.cuv.keep k cs t fz hk h1 h2 h3)
end
end Go.Proofs.YtfkhljmiehdgmaaGreatDoor
namespace Go.Proofs.YtfkhljmiehdgmaaGreatDoor
open Go.RowKit Go.Maps
theorem q7v{x:Pl.Sx}(h:Pl.SxFit x):∃l,keyOf Tryz.prog 162 (qap x)=some l:=by
 obtain⟨h1,h2,h3,h4,h5,h6,h7⟩:=qwo h.ok;have hf:=h.far;obtain⟨d,hs⟩:∃d,Tryz.prog.types.size+1=d+3:=⟨Tryz.prog.types.size - 2,by
  have:4<=Tryz.prog.types.size:=by decide +kernel
  omega⟩
 obtain⟨l,hl⟩:=q20 d x.st.mode ⟨x.st.name.toArray⟩ ⟨x.st.elem.toArray⟩ x.st.kind x.st.read x.ma.ref x.st.esc x.ma.hex x.ma.pct x.ma.far h1 (by simp[ByteArray.size];unfold maxLen;omega) (by simp[ByteArray.size];unfold maxLen;omega) h4 h5 h6 h7 (WalkArith.wf_i64 (by omega));have hk:Tryz.prog.keyType 162=true:=by kernel_rfl
 have ha:(qap x).formed Tryz.prog 162=true:=by
  unfold qap Value.formed;simp[Tryz.underlying162,qkz,qaf]
 unfold keyOf;simp only[Tryz.underlying162];rw[hk,ha,hs];unfold qap qaf bs;simp[Value.cells,hl]
theorem q2v{x y:Pl.Sx}(h:qap x=qap y):x=y:=by
 have:=@qje (0,x) (0,y) (by
  unfold qap at h;injection h with h;unfold qf9;simp only[h])
 injection this
theorem qyw(w:World){x y:Pl.Sx}(hx:Pl.SxFit x)(hy:Pl.SxFit y):(Op.equal 162 (qap x) (qap y)).run Tryz.prog w=.ok (decide (x=y)) w:=by
 obtain⟨lx,h1⟩:=q7v hx;obtain⟨ly,h2⟩:=q7v hy;obtain⟨r,hr,ha⟩:=run_equal_deep w (m:=4) (by decide) (by kernel_rfl) (by kernel_rfl) h1 h2;rw[hr];have:r=decide (x=y):=by
  rw[Bool.eq_iff_iff,ha,decide_eq_true_iff];constructor
  ·intro e
   exact q2v (keyOf_inj_deep (m:=4) (k:=162) (by kernel_rfl) (by kernel_rfl) h1 (by rw[h2,e]))
  ·rintro rfl
   rw[h1]at h2;exact Option.some.inj h2
 rw[this]
theorem qqi(w:World)(x y:Pl.Sx)(o1 o2:Operand):(eqGuard .neq 162 o1 o2 (qap x) (qap y)).run Tryz.prog w=.ok () w:=by
 unfold eqGuard qap;simp[run_program]
theorem q7u(w:World){x y:Pl.Sx}(hx:Pl.SxFit x)(hy:Pl.SxFit y):(binOp .neq 162 (qap x) (qap y)).run Tryz.prog w=.ok (.bool (!decide (x=y))) w:=by
 have h:=qyw w hx hy;unfold binOp qap;unfold qap at h;simp[h]
theorem qqj(w:World){x y:Pl.Sx}(hx:Pl.SxFit x)(hy:Pl.SxFit y):(Op.equalIn 10000 162 (qap x) (qap y)).run Tryz.prog w=.ok (decide (x=y)) w:=by
 have h:=qyw w hx hy;unfold qap at h |-;simpa [Op.equal,Op.maxDepth]using h
section
variable {w wr w':World}{B:Nat}{F:Fix}{S:List Pl.Src}{vv vv':Value}{M M':List Nat}{s s':Pl.Sr}{E:Nat}{e:Pl.En}{v g len G:Nat}{x:Pl.Sx}{L:List (Pl.Sx×Nat)}{b:Pl.Sx×Nat}{av:Option Addr}{cv:Nat}
theorem qvw(L:List (Pl.Sx×Nat))(b:Pl.Sx×Nat):(qge (L++[b])).take (L.length*11)=qge L:=by
 rw[qne,<-qpq,List.take_left]
theorem Thi.pop(h:Thi w wr B F S vv M s E e v g len G x (.slice av (L++[b]).length cv) (L++[b])):Thi w wr B F S vv M s E e v g len G x (.slice av L.length cv) L:=by
 have hl:(L++[b]).length=L.length+1:=by simp
 have hr:=h.row;obtain⟨gb,cb,hg,_⟩:=qaj hr (by omega);injection hg with ha Ha hb;subst ha;refine⟨h.sv,h.ent,h.now,h.mks,h.vis,?_,h.old,h.cuv,h.tabs⟩;have:=qi6 hr L.length (by omega)
 rwa [qvw]at this
theorem Thi.last(h:Thi w wr B F S vv M s E e v g len G x (.slice av (L++[b]).length cv) (L++[b])):∃gb,av=some ⟨gb,0,none⟩/\(L.length+1<=cv/\cv<=maxLen)/\∀j v,(qfm b)[j]?=some v->wr.cell? ⟨gb,L.length*11+j,none⟩=some v:=by
 have hl:(L++[b]).length=L.length+1:=by simp
 have hr:=h.row;have ha:L.length+1<=cv/\cv<=maxLen:=by
  rcases hr.2 with⟨h1,h2⟩|⟨g,cap,cur,hv,_,_,h3,h4,_⟩
  ·omega
  ·injection hv with Hb Hc Ha
   subst Ha;omega
 obtain⟨gb,cb,hg,_⟩:=qaj hr (by omega);injection hg with hb he He;subst hb;refine⟨gb,rfl,ha,fun j v hv=>?_⟩;have hc:=qri (L++[b]) L.length b (by simp) j v hv;exact(h.row.cellAt (L.length*11+j) (by have q:=(List.getElem?_eq_some_iff.1 hc).1;rw[qpq]at q;exact q)).trans hc
end
end Go.Proofs.YtfkhljmiehdgmaaGreatDoor
namespace Go.Proofs.YtfkhljmiehdgmaaGreatDoor
open Go.RowKit
namespace Pl
def qhh(S:List Src)(s:Sr)(e:En)(len:Nat):Sr:=
 if(qdh (behV S 257) (qab S e.1) ((qab S e.1).length+1) 0 s e.2).2.isNone=false/\(qdh (behV S 257) (qab S e.1) ((qab S e.1).length+1) 0 s e.2).2≠e.2 then(qdh (behV S 257) (qab S e.1) ((qab S e.1).length+1) 0 s e.2).1.wrong S e.1 15 len else(qdh (behV S 257) (qab S e.1) ((qab S e.1).length+1) 0 s e.2).1
end Pl
theorem qvo(HB:qg9)(S:List Pl.Src)(hS:SrcsOk S)(w:World)(B:Nat)(F:Fix)(vv:Value)(s:Pl.Sr)(e:Pl.En)(len:Nat)(h:SeAt w B F S vv s)(ho:Pl.EndsOk S.length s.ends)(he:Pl.SxFit e.2)(hi:e.1<S.length)(hB:B<=w.heap.size)(ht:TabB B w) :
  Calls Tryz.prog 76 #[.pointer (some ⟨F.g,0,none⟩),qf9 e,.int .i64 len] w fun ed w'=>(∃r,ed=.returned r)/\SeAt w' B F S vv (Pl.qhh S s e len)/\Cue B F w w':=by
 have Hi:=Pl.qk6 (Pl.qgd S 257 s.ends.length (by omega)) (Pl.qab S e.1) ((Pl.qab S e.1).length+1) 0 s e.2 ho (Nat.le_refl _) (.inr he);have hW:=fun(w5:World) (h5:SeAt w5 B F S vv s) (Hk:B<=w5.heap.size) (t5:TabB B w5)=>qyl HB S hS 257 (behC HB S hS 257) w5 B F vv s e h5 ho (by omega) he hi Hk t5;unfold Pl.qhh;generalize Pl.qdh (Pl.behV S 257) (Pl.qab S e.1) ((Pl.qab S e.1).length+1) 0 s e.2=r at Hi hW |-;obtain⟨s2,y⟩:=r;simp only at Hi hW |-;obtain⟨R,hR⟩:∃R,R=(if y.isNone=false/\y≠e.2 then s2.wrong S e.1 15 len else s2):=⟨_,rfl⟩;rw[<-hR];have HR:=hd hR;clear hR;have Ha:=fun w=>qsi y w;have hl:=hd (fun(w5:World) (h5:SeAt w5 B F S vv s2) (Hk:B<=w5.heap.size)=>qk3 S w5 B F vv s2 e 15 len h5 hi Hk);have HA:=hd h;have HT:=hd ht;rw[qbi];rw[qbi]at hW hl;unfold qao bs;unfold qap qao qaf bs at hW;unfold qap qaf bs at Ha;unfold qao bs at hl;have HW:=hd hW;have HE:Hid ((w.alloc (.cells (qao e) 180)).heap[w.heap.size]?=some (.cells (qao e) 180 (0,0))):=heap_alloc_new w _;have hf:Hid (∀w5,Cue B F (w.alloc (.cells (qao e) 180)) w5->w5.heap[w.heap.size]?=some (.cells (qao e) 180 (0,0))):=fun w5 hc=>(hc.keep w.heap.size (by simp) (qae HE.out (h.alloc _).blk qb2) (qak HE.out (h.alloc _).ends)).trans HE.out;have Hl:Hid (∀w5,Cue B F (w.alloc (.cells (qao e) 180)) w5->Cue B F w w5):=fun w5 hc=>(Cue.of_below ((Below.refl w.heap.size w).alloc (Nat.le_refl _) _) hB).trans hc;unfold qao bs at hf Hl;have hm:=hd hB;clear h ht hW HE;go_enter Tryz.func76,Tryz.ntmps76
 go_wp2_with fail
 refine(HW.out _ (HA.out.alloc _) (Nat.le_trans hm.out (by simp)) (TabB.kept HT.out (((Below.refl w.heap.size w).alloc (Nat.le_refl _) _).mono hm.out))).mono ?_;rintro ed w2 ⟨rfl,hj,Hg⟩;have Hf:=hd hj;have He:=hd (hf.out w2 Hg);have Hj:=hd (Hl.out w2 Hg);clear hj Hg;have Ho:B<=w2.heap.size:=Nat.le_trans hm.out Hj.out.below.size;have hk:=(show Hid (B<=w2.heap.size)from Ho);clear Ho HW hf Hl HA HT;by_cases hn:y.isNone=true
 ·have hb:(y.st.mode==0)=true:=hn
  rw[hb]at Ha;have HN:=hd hn;have HQ:Hid (R=s2):=by show _=_;rw[HR.out,if_neg (by rintro⟨h1,_⟩;rw[hn]at h1;cases h1)]
  clear hb hn;go_wp2_with fail
  refine(Ha _).mono ?_;rintro ed w3 ⟨rfl,Hc⟩;have H3:Hid (SeAt w3 B F S vv s2/\Cue B F w2 w3):=by rw[<-Hc];exact⟨(Hf.out.alloc _).alloc _,Cue.of_below ((ba _).alloc (by simp) _) hk.out⟩
  clear Hc;go_wp2_with fail
  go_end0
  exact⟨⟨_,rfl⟩,by rw[HQ.out];exact H3.out.1,Hj.out.trans H3.out.2⟩
 ·have Hm:=Pl.qkv Hi.2 hn
  have Hn:y.isNone=false:=Bool.eq_false_iff.2 hn;have hb:(y.st.mode==0)=false:=Hn;rw[hb]at Ha;have heq:=fun w=>q7u w Hm he;have hp:=fun w=>qqi w y e.2;have hg:=fun w=>qqj w Hm he;unfold qap qaf bs at heq hp hg;have HN:=hd Hn;clear hb hn Hn Hm Hi;by_cases hx:y=e.2
  ·rw[decide_eq_true hx]at heq hg
   have HQ:Hid (R=s2):=by show _=_;rw[HR.out,if_neg (fun q=>q.2 hx)]
   clear hx;go_wp2_with fail
   refine(Ha _).mono ?_;rintro ed w3 ⟨rfl,Hc⟩;have H3:Hid (SeAt w3 B F S vv s2/\Cue B F w2 w3):=by rw[<-Hc];exact⟨(Hf.out.alloc _).alloc _,Cue.of_below ((ba _).alloc (by simp) _) hk.out⟩
   have hy:StIn w3 w2.heap.size y:=by rw[<-Hc];exact(heap_alloc_old _ _ (by simp)).trans (heap_alloc_new _ _)
   have Hb:w3.heap[w.heap.size]?=some (.cells (qao e) 180 (0,0)):=(H3.out.2.keep w.heap.size (Array.getElem?_eq_some_iff.1 He.out).1 (qae He.out Hf.out.blk qb2) (qak He.out Hf.out.ends)).trans He.out;have ha:=qcn Hb;unfold qao bs at ha;have m0:=ha 0 _ rfl;have m1:=ha 1 _ rfl;have m2:=ha 2 _ rfl;have m3:=ha 3 _ rfl;have m4:=ha 4 _ rfl;have m5:=ha 5 _ rfl;have m6:=ha 6 _ rfl;have m7:=ha 7 _ rfl;have m8:=ha 8 _ rfl;have m9:=ha 9 _ rfl;have m10:=ha 10 _ rfl;have q0:=hy.at'.mode;have q1:=hy.at'.name;have q2:=hy.at'.elem;have q3:=hy.at'.kind;have q4:=hy.at'.read;have q5:=hy.at'.ref;have q6:=hy.at'.esc;have q7:=hy.at'.hex;have q8:=hy.at'.pct;have q9:=hy.at'.far;clear ha Hb hy Hc;go_wp2_with fail
   go_end0
   exact⟨⟨_,rfl⟩,by rw[HQ.out];exact H3.out.1,Hj.out.trans H3.out.2⟩
  ·rw[decide_eq_false hx]at heq hg
   have HQ:Hid (R=s2.wrong S e.1 15 len):=by show _=_;rw[HR.out,if_pos ⟨HN.out,hx⟩]
   clear hx;go_wp2_with fail
   refine(Ha _).mono ?_;rintro ed w3 ⟨rfl,Hc⟩;have H3:Hid (SeAt w3 B F S vv s2/\Cue B F w2 w3):=by rw[<-Hc];exact⟨(Hf.out.alloc _).alloc _,Cue.of_below ((ba _).alloc (by simp) _) hk.out⟩
   have hy:StIn w3 w2.heap.size y:=by rw[<-Hc];exact(heap_alloc_old _ _ (by simp)).trans (heap_alloc_new _ _)
   have Hb:w3.heap[w.heap.size]?=some (.cells (qao e) 180 (0,0)):=(H3.out.2.keep w.heap.size (Array.getElem?_eq_some_iff.1 He.out).1 (qae He.out Hf.out.blk qb2) (qak He.out Hf.out.ends)).trans He.out;have ha:=qcn Hb;unfold qao bs at ha;have m0:=ha 0 _ rfl;have m1:=ha 1 _ rfl;have m2:=ha 2 _ rfl;have m3:=ha 3 _ rfl;have m4:=ha 4 _ rfl;have m5:=ha 5 _ rfl;have m6:=ha 6 _ rfl;have m7:=ha 7 _ rfl;have m8:=ha 8 _ rfl;have m9:=ha 9 _ rfl;have m10:=ha 10 _ rfl;have q0:=hy.at'.mode;have q1:=hy.at'.name;have q2:=hy.at'.elem;have q3:=hy.at'.kind;have q4:=hy.at'.read;have q5:=hy.at'.ref;have q6:=hy.at'.esc;have q7:=hy.at'.hex;have q8:=hy.at'.pct;have q9:=hy.at'.far;clear ha Hb hy Hc;go_wp2_with fail
   refine(hl.out _ H3.out.1 (Nat.le_trans hk.out H3.out.2.below.size)).mono ?_;rintro ed w4 ⟨⟨r,rfl⟩,hj,Hg⟩;go_wp2_with fail
   go_end0
   exact⟨⟨_,rfl⟩,by rw[HQ.out];exact hj,Hj.out.trans (H3.out.2.trans Hg)⟩
theorem qt9(s:ByteArray)(w:World)(h7:Pl.qa0 s.data.toList=7) :
  Calls Tryz.prog 149 #[.string s] w fun e w'=>e=.returned (qec ⟨7,0,[],[],[]⟩)/\Below w.heap.size w w':=by
 have HK:=hd (fun w=>h7▸qgl s w);clear h7;go_enter Tryz.func149,Tryz.ntmps149
 go_wp2_with (go_at_call 193;refine Calls.mono (HK.out _) ?_;rintro e w' ⟨rfl,rfl⟩)
 exact qoi (r:=⟨7,0,[],[],[]⟩) Tryz.results149 rfl rfl (heap_alloc_new w _) (ba _)
theorem q3g(s:ByteArray)(w:World)(r:Pl.Tg)(h2:Pl.qa0 s.data.toList=2)
  (hN:∀o,Calls Tryz.prog 195 #[.int .i64 (2:Nat),.string s] (w.alloc o) fun e w'=>e=.returned (qec r)/\Below (w.alloc o).heap.size (w.alloc o) w') :
  Calls Tryz.prog 149 #[.string s] w fun e w'=>e=.returned (qec r)/\Below w.heap.size w w':=by
 have HK:=hd (fun w=>h2▸qgl s w);have HN:=hd hN;have HR:Hid (#[Value.int .i64 r.kind,.int .i64 r.slip,bs r.name,bs r.op,bs r.cl]=ql1 r):=rfl;clear h2 hN;unfold qec at HN;unfold bs at HN HR;generalize (r.kind:Int)=r0 at HN HR;generalize (r.slip:Int)=r1 at HN HR;generalize (⟨r.name.toArray⟩:ByteArray)=r2 at HN HR;generalize (⟨r.op.toArray⟩:ByteArray)=r3 at HN HR;generalize (⟨r.cl.toArray⟩:ByteArray)=r4 at HN HR;go_enter Tryz.func149,Tryz.ntmps149
 go_wp2_with (first
   |(go_at_call 193;refine Calls.mono (HK.out _) ?_;rintro e w' ⟨rfl,rfl⟩)
   | (go_at_call 195;refine Calls.mono (HN.out _) ?_;rintro e w' ⟨rfl,hb⟩;have hS:=(qd5 w).next hb;obtain⟨⟨k0,k1,k2,k3,k4⟩,f0,f1,f2,f3,f4⟩:=hS.facts;have HS:=hd hS;clear hb hS))
 exact qgk (w0:=w) r Tryz.results149 rfl rfl HS.out HR.out
theorem q3f(s:ByteArray)(w:World)(r:Pl.Tg)(K:Nat)(L:ByteArray)(hk:Pl.qa0 s.data.toList=K)(h2:K≠2)(h7:K≠7)(h8:K≠8)(hs:s.size≠0)(hm:qaz w)
  (hT:∀w,Calls Tryz.prog 196 #[.string (s.extract 1 s.size),.string ⟨#[9,10,12,13,32]⟩] w fun e w'=>e=.returned (.string L)/\Below w.heap.size w w')
  (hN:∀w,qaz w->Calls Tryz.prog 195 #[.int .i64 K,.string L] w fun e w'=>e=.returned (qec r)/\Below w.heap.size w w') :
  Calls Tryz.prog 149 #[.string s] w fun e w'=>e=.returned (qec r)/\Below w.heap.size w w':=by
 have HK:=hd (fun w=>hk▸qgl s w);have HN:=hd hN;have HT:=hd hT;have HM:=hd hm;have HR:Hid (#[Value.int .i64 r.kind,.int .i64 r.slip,bs r.name,bs r.op,bs r.cl]=ql1 r):=rfl;have c1:(1:Int)<=(s.size:Int):=by omega
 have e7:¬(K:Int)=7:=by omega
 have e8:¬(K:Int)=8:=by omega
 have e2:¬(K:Int)=2:=by omega
 clear hk h2 hN hT hm h7 h8 hs;unfold qec at HN;unfold bs at HN HR;generalize (r.kind:Int)=r0 at HN HR;generalize (r.slip:Int)=r1 at HN HR;generalize (⟨r.name.toArray⟩:ByteArray)=r2 at HN HR;generalize (⟨r.op.toArray⟩:ByteArray)=r3 at HN HR;generalize (⟨r.cl.toArray⟩:ByteArray)=r4 at HN HR;go_enter Tryz.func149,Tryz.ntmps149
 go_wp2_with (first
   |(go_at_call 193;refine Calls.mono (HK.out _) ?_;rintro e w' ⟨rfl,rfl⟩)
   |(go_at_call 196;refine Calls.mono (HT.out _) ?_;rintro e w' ⟨rfl,hb⟩;have ha:=(show Hid _ from(qd5 w).next hb);clear hb)
   | (go_at_call 195;refine Calls.mono (HN.out _ (qaz.below HM.out (TgSlot.below ha.out))) ?_;rintro e w' ⟨rfl,hb⟩;have hS:=TgSlot.next ha.out hb;obtain⟨⟨k0,k1,k2,k3,k4⟩,f0,f1,f2,f3,f4⟩:=hS.facts;have HS:=hd hS;clear hb hS))
 exact qgk (w0:=w) r Tryz.results149 rfl rfl HS.out HR.out
theorem q0u(s:ByteArray)(w:World)(hs:s.size<=100000)(hm:qaz w)(h8:Pl.qa0 s.data.toList≠8) :
  Calls Tryz.prog 149 #[.string s] w fun e w'=>e=.returned (qec (Pl.qa9 s.data.toList))/\Below w.heap.size w w':=by
 by_cases h7:Pl.qa0 s.data.toList=7
 ·have HV:Pl.qa9 s.data.toList=⟨7,0,[],[],[]⟩:=by unfold Pl.qa9;rw[if_pos h7]
  rw[HV];exact qt9 s w h7
 by_cases h2:Pl.qa0 s.data.toList=2
 ·have HV:Pl.qa9 s.data.toList=Pl.qca 2 s.data.toList:=by unfold Pl.qa9;rw[if_neg h7,if_neg h8,if_pos h2]
  rw[HV];exact q3g s w _ h2 fun o=>qoj 2 s (w.alloc o) hs (hm.below (ba _))
 have ha:s.size≠0:=fun q=>h2 (by
  have:s.data.toList=[]:=by
   apply List.eq_nil_of_length_eq_zero;simpa using q
  rw[this];rfl)
 have HV:Pl.qa9 s.data.toList=Pl.qca (Pl.qa0 s.data.toList) (Lib.trimLeftS (s.data.toList.drop 1) Pl.qah):=by unfold Pl.qa9;rw[if_neg h7,if_neg h8,if_neg h2]
 rw[HV];have hx:(s.extract 1 s.size).data.toList=s.data.toList.drop 1:=by
  rw[Lib.extract_eq];show List.take _ _=_;exact List.take_of_length_le (by simp)
 have Ha:(Lib.trimLeftS (s.data.toList.drop 1) Pl.qah).length<=100000:=by
  have:=Pl.qib (s.data.toList.drop 1) Pl.qah;have h3:s.data.toList.length=s.size:=by simp
  rw[List.length_drop]at this;omega
 refine q3f s w _ _ ⟨(Lib.trimLeftS (s.data.toList.drop 1) Pl.qah).toArray⟩ rfl h2 h7 h8 ha hm (fun w=>?_) (fun w hm=>?_)
 ·have:=qof (s.extract 1 s.size) w
  rw[hx]at this;exact this
 ·exact qoj _ ⟨(Lib.trimLeftS (s.data.toList.drop 1) Pl.qah).toArray⟩ w (by simpa [ByteArray.size]using Ha) hm
theorem qwf(n:Int)(v:Pl.Vw)(w:World) :
  Calls Tryz.prog 57 #[.slice none 0 0,qfc n v] w fun e w'=>e=.returned (.bool false)/\Below w.heap.size w w':=by
 have HB:Hid (Below w.heap.size w (w.alloc (.cells (qcf n v) 143))):=ba _;unfold qfc;unfold qcf at HB;go_enter Tryz.func57,Tryz.ntmps57
 go_wp2_with fail
 generalize w.alloc _=W0 at HB |-;go_loopw [5] (fun i wr=>i=.int .i64 0/\wr=W0) (fun _ _=>0)
 case atStart=>exact⟨rfl,rfl⟩
 case round=>
  obtain⟨rfl,rfl⟩:=hrel;go_wp2
  go_ret
  exact⟨rfl,HB.out⟩
structure PartsAt(w:World)(g B:Nat)(N:List ByteArray):Prop where
 head:∃c:Nat,w.cell? ⟨g,1,none⟩=some (.slice (some ⟨B,0,none⟩) N.length c)
 name:∀i x,N[i]?=some x->w.cell? ⟨B,i*2,none⟩=some (.string x)
def qtm(x:ByteArray)(N:List ByteArray)(r:Int):Prop:=(∃k:Nat,r=k/\N[k]?=some x/\∀j:Nat,j<k->¬N[j]?=some x)\/(r=-1/\∀j:Nat,¬N[j]?=some x)
theorem q56(g B:Nat)(N:List ByteArray)(x:ByteArray)(w:World)(hN:N.length<=100000)(h:PartsAt w g B N) :
  Calls Tryz.prog 56 #[.pointer (some ⟨g,0,none⟩),.string x] w fun e w'=>(∃r:Int,e=.returned (.int .i64 r)/\qtm x N r)/\w'=w:=by
 obtain⟨c,hd⟩:=h.head;have HA:=(show Hid (PartsAt w g B N)from h);clear h;go_enter Tryz.func56,Tryz.ntmps56
 go_wp2_with fail
 go_loopw [5] (fun i wr=>∃k:Nat,k<=N.length/\i=.int .i64 k/\Hid (∀j:Nat,j<k->¬N[j]?=some x)/\wr=w) (fun i _=>N.length - (intOf i).toNat)
 case atStart=>exact⟨0,Nat.zero_le _,rfl,fun j hj=>absurd hj (Nat.not_lt_zero _),rfl⟩
 case round=>
  obtain⟨k,hk,rfl,HN,rfl⟩:=hrel;by_cases ha:k<N.length
  ·have hx:N[k]?=some N[k]:=List.getElem?_eq_getElem ha
   have q0:=HA.out.name k _ hx;have HX:=(show Hid (N[k]?=some N[k])from hx);clear hx HA;generalize N[k]=X at q0 HX;by_cases e0:X=x
   ·have HF:Hid (qtm x N (k:Int)):=.inl ⟨k,rfl,by rw[HX.out,e0],HN.out⟩
    clear HX HN;subst e0;go_wp2_with fail
    go_ret
    exact⟨⟨_,rfl,HF.out⟩,rfl⟩
   ·have HD:Hid (∀j:Nat,j<k+1->¬N[j]?=some x):=by
     intro j hj q;by_cases Ha:j=k
     ·subst Ha;rw[HX.out]at q;exact e0 (Option.some.inj q)
     ·exact HN.out j (by omega) q
    have c0:(X.toList==x.toList)=false:=by
     rw[beq_eq_false_iff_ne,ByteArray.toList_eq,ByteArray.toList_eq];exact fun q=>e0 (ByteArray.ext (Array.toList_inj.1 q))
    clear HX HN e0;go_wp2
    go_roundw
    case rel=>exact⟨k+1,by omega,by go_num,HD,trivial⟩
    case measure=>simp[intOf];omega
  ·have hb:k=N.length:=by omega
   have HF:Hid (qtm x N (-1)):=.inr ⟨rfl,fun j q=>by
    have hj:j<N.length:=(List.getElem?_eq_some_iff.1 q).1;exact HN.out j (by omega) q⟩
   subst hb;clear HN HA;go_wp2
   go_ret
   exact⟨⟨_,rfl,HF.out⟩,rfl⟩
end Go.Proofs.YtfkhljmiehdgmaaGreatDoor
