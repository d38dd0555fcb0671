/-
  Steps of the proof.
-/
import Derived.Test.YtfkhljmiehdgmaaGreatDoorCuAX
set_option maxRecDepth 100000
set_option maxHeartbeats 40000000
namespace Go.Proofs.YtfkhljmiehdgmaaGreatDoor
open Go.RowKit Go.Proofs.Tryz Pl
theorem zgy{P:Program}{fn:Func}{R:Ending->World->Prop}{a:Act}{w:World}{t u:Tmp}(h:fn.results=#[.tmp t,.tmp u])(z:a.defers=[])(x y:Value)(D:a.tmps.getD t undef=x)(I:a.tmps.getD u undef=y)(J:R (.returned (.tuple #[x,y])) w):bodyPost P fn R .ret a w:=by
 subst D I;refine bodyPost_ret ?_ z J;simp[results,h]
theorem is10{b:UInt8}(h:(b==10)=true):(b.toNat:Int)=10:=by rw[eq_of_beq h];rfl
theorem zha{b:UInt8}(h:(b==10)=false):¬(b.toNat:Int)=10:=fun q=>yf.1 h (UInt8.toNat_inj.1 (show b.toNat=10 by omega))
theorem zfn(w:World)(B g:Nat)(t:zU)(c:Ct)(vp vo:Value)(h:CtAt w B g t c vp vo)(a z:Nat)(Z:a<=t.length)(hz:z<=t.length)(ht:t.length<=2000)
  (X Y:zT) (hT:∀w,zC 204 #[.string ((⟨t.toArray⟩:zT).extract 0 a),.string ⟨#[9,12,13,32]⟩] w (zR (.string X) w))
  (hL:∀w,zC 196 #[.string ((⟨t.toArray⟩:zT).extract z t.length),.string ⟨#[9,12,13,32]⟩] w (zR (.string Y) w))
  (P:zT) (hP:∀w,zC 205 #[.string Y,.string ⟨#[10]⟩] w (zQ (.string P) w)) (I:P.size<=t.length)
  (bx bz:Bool) (cx:X.toList.isEmpty=true/\bx=true\/X.toList.isEmpty=false/\∃n,X.size=n+1/\n<=100000/\∀hh:n<X.size,(X[n]'hh==10)=bx)
  (cz:Y.toList.isEmpty=true/\bz=true\/Y.toList.isEmpty=false/\∃_:0<Y.size,(Y[0]==10)=bz) :
  zC 151 #[zP g,zI a,zI z] w (zR (if(bx && bz)=true then .tuple #[zI X.size,zI ((t.length:Int) - (P.size:Int))]else .tuple #[zI a,zI z]) w):=by
 obtain⟨T,y⟩:∃T,T=(⟨t.toArray⟩:zT):=⟨_,rfl⟩;have D:T.size=t.length:=by rw[y];simp[ByteArray.size]
 rw[<-y]at hT hL;have HT:=zH hT;have b0:=h.cell 0 _ rfl;unfold bs at b0;rw[<-y]at b0;have H:=zH h;clear hT h y;rw[<-D]at Z hz hL ht I |-;have HL:=zH hL;have c1:(a:Int)<=(T.size:Int):=by omega
 have c2:(z:Int)<=(T.size:Int):=by omega
 have HP:=zH hP;have w9:IntKind.i64.wrap ((T.size:Int) - (P.size:Int))=(T.size:Int) - (P.size:Int):=by rw[IntKind.wrap_i64];omega
 clear D hP hL;rcases cx with⟨hX,rfl⟩|⟨hX,n,hn,V,hb⟩
 case' inr=>
  have J:n<X.size:=by omega
  have w1:IntKind.i64.wrap (n:Int)=n:=qo4 n (by omega);have e:=hb J;clear hb;cases bx;have d1:=zha e
  rotate_left
  have d1:=is10 e
  all_goals clear e
 all_goals
  rcases cz with⟨hY,rfl⟩|⟨hY,hy,e⟩
  case' inr=>
   have d3:(0:Int)<(Y.size:Int):=by omega
   cases bz;have d2:=zha e
   rotate_left
   have d2:=is10 e
   all_goals clear e
  all_goals
   go_enter func151,ntmps151
   go_wp2_with (first
    |(go_at_call 204;refine xQ (HT.out _) ?_;rintro e w1 ⟨rfl,hb⟩;have b1:w1.cell? (zO g 0)=some (.string T):=(xP (hb.block _ (CtAt.lt H.out))).trans b0;have O:=zH hb;clear hb)
    | (go_at_call 196;refine xQ (HL.out _) ?_;rintro e w2 ⟨rfl,hb⟩;have b2:w2.cell? (zO g 0)=some (.string T):=(xP (hb.block _ (xO _ _ b1))).trans b1;have U:=zH hb;clear hb))
   try go_region_with (first|(go_at_call 205;refine cm (HP.out _) ?_)|fail)
   all_goals
    try go_wp2
    refine zgy results151 rfl _ _ rfl rfl ?_;exact⟨by first|rfl|(rw[hn];rfl),by have h1:=O.out;have h2:=U.out;first|exact h1.trans (h2.mono h1.size)|exact(h1.trans (h2.mono h1.size)).drew⟩
end Go.Proofs.YtfkhljmiehdgmaaGreatDoor
