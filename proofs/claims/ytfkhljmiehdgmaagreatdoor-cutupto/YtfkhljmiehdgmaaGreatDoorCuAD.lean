/-
  Steps of the proof.
-/
import Derived.Test.YtfkhljmiehdgmaaGreatDoorCuAB
set_option maxRecDepth 100000
set_option maxHeartbeats 40000000
namespace Go.Proofs.YtfkhljmiehdgmaaGreatDoor
open Go.RowKit Go.Proofs.Tryz Pl
theorem zck(m:Int)(s:zT)(w:World)(hs:s.size<=4000000000000000000) :
  zC 169 #[zI m,.string s] w (zQ (zV (kept m s.data.toList)) w):=by
 have HI:=zH (fun w=>qhy m w);have HE:=zH (fun w=>qnx s (qbg m) w hs);have HR:=zH (fun w=>qml s w hs)
 have HK:Hid (kept m s.data.toList=_):=show kept m s.data.toList=(if qca m=true then(if qdz (qbg m) s.data.toList=0 then[] else s.data.toList)
  else if qie s.data.toList=true then[38] else if m=1\/m=19 then[] else if 2<s.data.toList.length then s.data.toList.drop (s.data.toList.length - 2) else s.data.toList) from rfl
 have ha:qbg m=decide (28<=m):=rfl;generalize qdz (qbg m) s.data.toList=l at HE HK;generalize qca m=I at HI HK;generalize qie s.data.toList=R at HR HK;rw[ha]at HE;clear ha;cases I
 ·cases R
  ·by_cases hm:m=1\/m=19
   ·have HV:Hid (kept m s.data.toList=[]):=by show _=_;rw[HK.out,if_neg (by simp),if_neg (by simp),if_pos hm]
    clear HK;rcases hm with rfl|rfl
    all_goals
     go_enter func169,ntmps169
     go_wp2_with (first|(go_at_call 69;refine(HI.out _).mono ?_;rintro e w' ⟨rfl,rfl⟩)|(go_at_call 68;refine(HR.out _).mono ?_;rintro e w' ⟨rfl,rfl⟩))
     go_ret
     exact⟨qcl (by rw[HV.out]),rfl⟩
   ·have m1:(m==1)=false:=yf.2 (fun q=>hm (.inl q))
    have m2:(m==19)=false:=yf.2 (fun q=>hm (.inr q));by_cases h2:2<s.size
    ·have HV:Hid (kept m s.data.toList=s.data.toList.drop (s.size - 2)):=by show _=_;rw[HK.out,if_neg (by simp),if_neg (by simp),if_neg hm,if_pos (by show 2<s.data.toList.length;exact h2)];rfl
     have hi:(2:Int)<(s.size:Int):=by omega
     clear HK hm;go_enter func169,ntmps169
     go_wp2_with (first|(go_at_call 69;refine(HI.out _).mono ?_;rintro e w' ⟨rfl,rfl⟩)|(go_at_call 68;refine(HR.out _).mono ?_;rintro e w' ⟨rfl,rfl⟩))
     go_ret
     exact⟨qcl (by rw[HV.out];exact extract_drop s _),rfl⟩
    ·have HV:Hid (kept m s.data.toList=s.data.toList):=by show _=_;rw[HK.out,if_neg (by simp),if_neg (by simp),if_neg hm,if_neg (by show ¬ 2<s.data.toList.length;exact h2)]
     clear HK hm;go_enter func169,ntmps169
     go_wp2_with (first|(go_at_call 69;refine(HI.out _).mono ?_;rintro e w' ⟨rfl,rfl⟩)|(go_at_call 68;refine(HR.out _).mono ?_;rintro e w' ⟨rfl,rfl⟩))
     go_ret
     exact⟨qcl (by rw[HV.out]),rfl⟩
  ·have HV:Hid (kept m s.data.toList=[38]):=by show _=_;rw[HK.out,if_neg (by simp),if_pos rfl]
   clear HK;go_enter func169,ntmps169
   go_wp2_with (first|(go_at_call 69;refine(HI.out _).mono ?_;rintro e w' ⟨rfl,rfl⟩)|(go_at_call 68;refine(HR.out _).mono ?_;rintro e w' ⟨rfl,rfl⟩))
   go_ret
   exact⟨qcl (by rw[HV.out]),rfl⟩
 ·by_cases hl:l=0
  ·have HV:Hid (kept m s.data.toList=[]):=by show _=_;rw[HK.out,if_pos rfl,if_pos hl]
   subst hl;clear HK;go_enter func169,ntmps169
   go_wp2_with (first|(go_at_call 69;refine(HI.out _).mono ?_;rintro e w' ⟨rfl,rfl⟩)|(go_at_call 70;refine(HE.out _).mono ?_;rintro e w' ⟨rfl,rfl⟩))
   go_ret
   exact⟨qcl (by rw[HV.out]),rfl⟩
  ·have HV:Hid (kept m s.data.toList=s.data.toList):=by show _=_;rw[HK.out,if_pos rfl,if_neg hl]
   have Ha:(l==0)=false:=yf.2 hl;clear HK hl;go_enter func169,ntmps169
   go_wp2_with (first|(go_at_call 69;refine(HI.out _).mono ?_;rintro e w' ⟨rfl,rfl⟩)|(go_at_call 70;refine(HE.out _).mono ?_;rintro e w' ⟨rfl,rfl⟩))
   go_ret
   exact⟨qcl (by rw[HV.out]),rfl⟩
theorem qul(f:Int)(b:UInt8)(w:World) :
  zC 173 #[zI f,zJ b.toNat] w (zQ (zI (qcw f b)) w):=by
 by_cases ha:b=47
 ·subst ha
  have HV:Hid (qcw f 47=1):=by show _=_;unfold qcw;simp
  go_enter func173,ntmps173
  go_wp2
  go_ret
  exact⟨qal (by rw[HV.out]),rfl⟩
 have e47:((b.toNat:Int)==47)=false:=(qil b 47 (by omega)).trans (by rw[yf];exact ha);by_cases Ha:b=63
 ·subst Ha
  have HV:Hid (qcw f 63=1):=by show _=_;unfold qcw;simp
  go_enter func173,ntmps173
  go_wp2
  go_ret
  exact⟨qal (by rw[HV.out]),rfl⟩
 have e63:((b.toNat:Int)==63)=false:=(qil b 63 (by omega)).trans (by rw[yf];exact Ha);by_cases hb:b=35
 ·subst hb
  have HV:Hid (qcw f 35=1):=by show _=_;unfold qcw;simp
  go_enter func173,ntmps173
  go_wp2
  go_ret
  exact⟨qal (by rw[HV.out]),rfl⟩
 have e35:((b.toNat:Int)==35)=false:=(qil b 35 (by omega)).trans (by rw[yf];exact hb);by_cases Hb:b=58/\¬f=4
 ·obtain⟨rfl,h4⟩:=Hb
  have hc:(f != 4)=true:=by rw[bne_iff_ne];exact h4
  have HV:Hid (qcw f 58=1):=by show _=_;unfold qcw;simp[hc]
  clear h4;go_enter func173,ntmps173
  go_wp2
  go_ret
  exact⟨qal (by rw[HV.out]),rfl⟩
 have hF:qcw f b=if f=2 then 3 else f:=by
  unfold qcw;rw[if_neg];simp only[yU,yF,yL,bne_iff_ne,ne_eq,not_or];exact⟨ha,Ha,hb,Hb⟩
 have e58:(((b.toNat:Int)==58)=false)\/(((b.toNat:Int)==58)=true/\f=4):=by
  by_cases q:b=58
  ·right
   refine⟨(qil b 58 (by omega)).trans (by rw[yF];exact q),?_⟩;exact Decidable.byContradiction fun r=>Hb ⟨q,r⟩
  ·left;exact(qil b 58 (by omega)).trans (by rw[yf];exact q)
 clear ha Ha hb Hb;rcases e58 with e58|⟨e58,rfl⟩
 ·by_cases h2:f=2
  ·have HV:Hid (qcw f b=3):=by show _=_;rw[hF,if_pos h2]
   clear hF;subst h2;go_enter func173,ntmps173
   go_wp2
   go_ret
   exact⟨qal (by rw[HV.out]),rfl⟩
  ·have HV:Hid (qcw f b=f):=by show _=_;rw[hF,if_neg h2]
   have Hc:(f==2)=false:=yf.2 h2;clear hF h2;go_enter func173,ntmps173
   go_wp2
   go_ret
   exact⟨qal (by rw[HV.out]),rfl⟩
 ·have HV:Hid (qcw 4 b=4):=by show _=_;rw[hF];rfl
  clear hF;go_enter func173,ntmps173
  go_wp2
  go_ret
  exact⟨qal (by rw[HV.out]),rfl⟩
theorem q93(n:zU):qcu n=if(qd1==n)=true then 1 else if(qg0==n)=true then 2 else if(qcx==n)=true then 3 else if(qcz==n)=true then 4 else 0:=by
 have e:∀l:zU,(n=l)=((l==n)=true):=fun l=>propext (by rw[yF];exact eq_comm);unfold qcu;simp only[e]
def qg5:Obj:=.cells #[.string ⟨#[116,105,116,108,101]⟩,.string ⟨#[116,101,120,116,97,114,101,97]⟩,.string ⟨#[115,99,114,105,112,116]⟩,.string ⟨#[115,116,121,108,101]⟩] 9
theorem qvs(n:zU)(w:World) :
  zC 65 #[zV n] w fun e w'=>e=.returned (zI (qcu n:Nat))/\w.alloc qg5=w':=by
 have HE:=zH (q93 n);unfold qg5;go_enter func65,ntmps65
 go_wp2
 go_loop [4] (fun i=>∃k:Nat,k<=4/\i=zI k/\(1<=k->(qd1==n)=false)/\(2<=k->(qg0==n)=false)/\(3<=k->(qcx==n)=false)/\(4<=k->(qcz==n)=false)) (fun i=>4 - (intOf i).toNat)
 case atStart=>exact⟨0,by omega,rfl,by omega,by omega,by omega,by omega⟩
 case round=>
  obtain⟨k,hk,rfl,h1,h2,h3,h4⟩:=hrel;have H1:Hid (1<=k->(qd1==n)=false):=h1;have H2:Hid (2<=k->(qg0==n)=false):=h2;have H3:Hid (3<=k->(qcx==n)=false):=h3;have H4:Hid (4<=k->(qcz==n)=false):=h4;clear h1 h2 h3 h4;rcases(show k=0\/k=1\/k=2\/k=3\/k=4 by omega)with rfl|rfl|rfl|rfl|rfl
  ·by_cases hq:([116,105,116,108,101]==n)=true
   ·have HV:Hid (qcu n=1):=by show _=_;rw[HE.out,if_pos (show (qd1==n)=true from hq)]
    go_wp2
    go_ret
    exact⟨qal (by rw[HV.out];rfl),rfl⟩
   ·have hq:=ye.2 hq
    have HQ:Hid ((qd1==n)=false):=hq;go_wp2
    go_round
    case rel=>exact⟨1,by omega,rfl,fun _=>HQ.out,by omega,by omega,by omega⟩
    case measure=>simp[intOf]
  ·by_cases hq:([116,101,120,116,97,114,101,97]==n)=true
   ·have HV:Hid (qcu n=2):=by show _=_;rw[HE.out,H1.out (by omega),if_neg (by simp),if_pos (show (qg0==n)=true from hq)]
    go_wp2
    go_ret
    exact⟨qal (by rw[HV.out];rfl),rfl⟩
   ·have hq:=ye.2 hq
    have HQ:Hid ((qg0==n)=false):=hq;go_wp2
    go_round
    case rel=>exact⟨2,by omega,rfl,fun _=>H1.out (by omega),fun _=>HQ.out,by omega,by omega⟩
    case measure=>simp[intOf]
  ·by_cases hq:([115,99,114,105,112,116]==n)=true
   ·have HV:Hid (qcu n=3):=by show _=_;rw[HE.out,H1.out (by omega),if_neg (by simp),H2.out (by omega),if_neg (by simp),if_pos (show (qcx==n)=true from hq)]
    go_wp2
    go_ret
    exact⟨qal (by rw[HV.out];rfl),rfl⟩
   ·have hq:=ye.2 hq
    have HQ:Hid ((qcx==n)=false):=hq;go_wp2
    go_round
    case rel=>exact⟨3,by omega,rfl,fun _=>H1.out (by omega),fun _=>H2.out (by omega),fun _=>HQ.out,by omega⟩
    case measure=>simp[intOf]
  ·by_cases hq:([115,116,121,108,101]==n)=true
   ·have HV:Hid (qcu n=4):=by show _=_;rw[HE.out,H1.out (by omega),if_neg (by simp),H2.out (by omega),if_neg (by simp),H3.out (by omega),if_neg (by simp),if_pos (show (qcz==n)=true from hq)]
    go_wp2
    go_ret
    exact⟨qal (by rw[HV.out];rfl),rfl⟩
   ·have hq:=ye.2 hq
    have HQ:Hid ((qcz==n)=false):=hq;go_wp2
    go_round
    case rel=>exact⟨4,by omega,rfl,fun _=>H1.out (by omega),fun _=>H2.out (by omega),fun _=>H3.out (by omega),fun _=>HQ.out⟩
    case measure=>simp[intOf]
  ·have HV:Hid (qcu n=0):=by show _=_;rw[HE.out,H1.out (by omega),if_neg (by simp),H2.out (by omega),if_neg (by simp),H3.out (by omega),if_neg (by simp),H4.out (by omega),if_neg (by simp)]
   go_wp2
   go_ret
   exact⟨qal (by rw[HV.out];rfl),rfl⟩
theorem qyt(n:zU):(qcu n=0/\qav n=1)\/(qcu n=1/\qav n=19)\/(qcu n=2/\qav n=19)\/(qcu n=3/\qav n=20)\/(qcu n=4/\qav n=28):=by
 unfold qcu qav;by_cases h1:n=qd1
 ·rw[if_pos h1,if_pos h1];simp
 rw[if_neg h1,if_neg h1];by_cases h2:n=qg0
 ·rw[if_pos h2,if_pos h2];simp
 rw[if_neg h2,if_neg h2];by_cases h3:n=qcx
 ·rw[if_pos h3,if_pos h3];simp
 rw[if_neg h3,if_neg h3];by_cases h4:n=qcz
 ·rw[if_pos h4,if_pos h4];simp
 rw[if_neg h4,if_neg h4];simp
theorem q88(n:zU)(w:World) :
  zC 171 #[zV n] w (zR (zI (qav n:Nat)) w):=by
 have hE:=fun w=>qvs n w;have hC:=qyt n;generalize qav n=c at hC |-;generalize qcu n=k at hC hE;unfold qg5 at hE;rcases hC with⟨rfl,rfl⟩|⟨rfl,rfl⟩|⟨rfl,rfl⟩|⟨rfl,rfl⟩|⟨rfl,rfl⟩
 all_goals
  have HE:=zH hE;clear hE;go_enter func171,ntmps171
  go_wp2_with (go_at_call 65;refine(HE.out _).mono ?_;rintro e w' ⟨rfl,rfl⟩)
  go_ret
  exact⟨rfl,by repeat(first|exact xM _ _|refine Below.alloc ?_ (by simp<;>omega) _|apply Below.drew)⟩
end Go.Proofs.YtfkhljmiehdgmaaGreatDoor
