/-
  Steps of the proof.
-/
import Derived.Test.YtfkhljmiehdgmaaGreatDoorCuBI
set_option maxRecDepth 100000
set_option maxHeartbeats 40000000
namespace Go.Proofs.YtfkhljmiehdgmaaGreatDoor
open Go.RowKit Go.Proofs.Tryz Pl
namespace Pl
theorem q3h(l:zU):(qdr l [61] 0=-1/\among 61 l=false)\/(0<=qdr l [61] 0/\among 61 l=true):=by
 by_cases h:among 61 l=true
 ·right
  refine⟨?_,h⟩;unfold qdr;rw[List.drop_zero];rcases Go.Lib.index_spec l [61]with⟨_,q⟩|⟨i,q,_⟩
  ·obtain⟨i,hi⟩:=xo (qho.1 h)
   obtain⟨h1,h2⟩:=yb.1 hi;have:=q i (by omega);unfold Go.Lib.occAt at this;rw[yo h1,h2]at this;simp[List.isPrefixOf]at this
  ·rw[q,if_neg (by omega)];omega
 ·left
  have h:=ye.2 h;refine⟨qx9 l [61] 0 (yH _) (fun j _ hj=>?_),h⟩;unfold Go.Lib.occAt;rw[ye];intro q;have hj:j<l.length:=by simp only[yK,yQ]at hj;omega
  rw[yo hj]at q;simp only[List.isPrefixOf,Bool.and_true,yF]at q;rw[qho.2 (q▸List.getElem_mem hj)]at h;cases h
theorem q44(c:zT)(h:c.size<2\/∃q:0<c.size,c[c.size - 1]≠61):qdc c.data.toList=⟨8,4,[],[],[]⟩:=by
 unfold qdc;refine if_pos ?_;have hl:c.data.toList.length=c.size:=rfl;rw[ye];intro q;unfold Go.Lib.hasSuffix at q;have q:=List.isSuffixOf_iff_suffix.1 q;obtain⟨t,ht⟩:=q;have ha:=yE List.length ht;rw[yJ,yM]at ha;simp only[yK,yQ]at ha;rcases h with h|⟨h0,h⟩
 ·omega
 ·refine h ?_
  have e:(c.data.toList.drop 1)[c.size - 2]?=some 61:=by
   rw[<-ht,yt (by omega),show c.size - 2 - t.length=0 by omega];rfl
  rw[List.getElem?_drop,show 1+(c.size - 2)=c.size - 1 by omega,qe5 c _ (by omega)]at e;exact yk e
def dlOf:List zU->Tg
 |[a,b]=>if qeb a=true/\qeb b=true then⟨8,0,[],a,b⟩else⟨8,4,[],[],[]⟩
 |_=>⟨8,4,[],[],[]⟩
theorem q0s(c:zT)(h2:2<=c.size)(h:c[c.size - 1]=61):qdc c.data.toList=dlOf (qfy (c.extract 1 (c.size - 1)).data.toList):=by
 have hl:c.data.toList.length=c.size:=rfl;have e:c.data.toList.drop 1=(c.extract 1 (c.size - 1)).data.toList++[61]:=by
  rw[qco];show _=(c.data.toList.drop 1).take (c.size - 1 - 1)++[61];have h1:(c.data.toList.drop 1).length=c.size - 1:=by rw[yM,hl]
  have:=(yu (c.size - 2) (c.data.toList.drop 1)).symm;rw[show c.size - 1 - 1=c.size - 2 by omega];refine this.trans ?_
  congr 1
  rw[yD,show 1+(c.size - 2)=c.size - 1 by omega,yo (by omega:c.size - 1<c.data.toList.length)];have:c.data.toList[c.size - 1]'(by omega)=61:=h;rw[this,show c.size - 1+1=c.data.toList.length by omega,List.drop_length]
 unfold qdc;have hs:Go.Lib.hasSuffix (c.data.toList.drop 1) [61]=true:=by
  unfold Go.Lib.hasSuffix;rw[e];exact List.isSuffixOf_iff_suffix.2 (List.suffix_append _ _)
 have ht:Go.Lib.trimSuffix (c.data.toList.drop 1) [61]=(c.extract 1 (c.size - 1)).data.toList:=by
  unfold Go.Lib.trimSuffix;rw[hs,if_pos rfl,e,yJ];simp
 rw[if_neg (by rw[hs];simp),ht];generalize qfy (c.extract 1 (c.size - 1)).data.toList=L
 match L with
 |[]=>rfl
 |[_]=>rfl
 |[_,_]=>rfl
 |_::_::_::_=>rfl
theorem qio:∀(l c:zU),∀x∈qbo c l,x.length<=c.length+l.length
 |[],c,x,hx=>by
   unfold qbo at hx;split at hx
   ·cases hx
   ·rw[yv.1 hx];exact Nat.le_add_right _ _
 |b::l,c,x,hx=>by
   unfold qbo at hx;rw[yK];split at hx
   ·split at hx
    ·have:=qio l [] x hx
     simp only[yQ]at this;omega
    ·rcases xu.1 hx with rfl | hx
     ·omega
     ·have:=qio l [] x hx
      simp only[yQ]at this;omega
   ·have:=qio l (c++[b]) x hx
    rw[yJ]at this;simp only[yK,yQ]at this;omega
end Pl
theorem q1y(s:zT)(w:World)(hs:s.size<=1000000) :
  zC 81 #[.string s,.string ⟨#[61]⟩,zI 0] w (zQ (zI (Pl.qdr s.data.toList [61] 0)) w):=
 qtl s ⟨#[61]⟩ 0 w hs (by decide) (yH _)
theorem qgk.cell{B:Nat}{w:World}{L:List zU}{g cap:Nat}(h:qgk B w (zF g L.length cap) L)(j:Nat)(l:zU)(hj:L[j]?=some l):w.cell? (zO g j)=some (zV l):=by
 have h1:=(yb.1 hj).1;rw[World.ownsRow.cellAt h j (by rw[Nat.mul_one];exact h1)];unfold qll;rw[yz,hj];rfl
def zdd(r:Pl.Tg):Value:=.tuple #[zV r.op,zV r.cl,.bool (decide (r.slip=0))]
theorem q6c(s:zT)(w:World)(hs:s.size<=1000000) :
  zC 87 #[.string s] w (zR (zdd (Pl.qdc s.data.toList)) w):=by
 by_cases hb:s.size<2\/∃q:0<s.size,s[s.size - 1]≠61
 ·rw[Pl.q44 s hb]
  by_cases h2:s.size<2
  ·have He:(s.size:Int)<2:=by omega
   clear hb;go_enter func87,ntmps87
   go_wp2
   (try simp only[Exit.inBlock,Exit.then]);refine bodyPost_ret (results_tmp3 rfl _ _ _) rfl ?_
   exact⟨rfl,xM _ _⟩
  ·obtain⟨h0,hc⟩:=hb.resolve_left h2
   have He:¬(s.size:Int)<2:=by omega
   have h3:(0:Int)<=(s.size:Int) - 1:=by omega
   have hq:((s[s.size - 1].toNat:Int)==61)=false:=by
    have:=qil s[s.size - 1] 61 (by decide);rw[yf.2 (show s[s.size - 1]≠UInt8.ofNat 61 from hc)]at this;exact this
   have hR:=zH hc;clear hb;go_enter func87,ntmps87
   go_wp2
   (try simp only[Exit.inBlock,Exit.then]);refine bodyPost_ret (results_tmp3 rfl _ _ _) rfl ?_
   exact⟨rfl,xM _ _⟩
 have h2:2<=s.size:=by
  rcases Nat.lt_or_ge s.size 2 with q|q
  ·exact absurd (.inl q) hb
  ·exact q
 have hi:s.size - 1<s.size:=Nat.sub_lt (yi (by decide) h2) (by decide);have hc:s[s.size - 1]'hi=61:=by
  by_cases q:s[s.size - 1]'hi=61
  ·exact q
  ·exact absurd (.inr ⟨by omega,q⟩) hb
 clear hb;have HR:=zH (Pl.q0s s h2 hc);have He:¬(s.size:Int)<2:=by omega
 have h3:(0:Int)<=(s.size:Int) - 1:=by omega
 have h4:(1:Int)<=(s.size:Int) - 1:=by omega
 have hq:(((s[s.size - 1]'hi).toNat:Int)==61)=true:=by rw[hc];rfl
 have hX:(s.extract 1 (s.size - 1)).size<=s.size:=by
  rw[qco,qb1,yP,yM];have:s.data.toList.length=s.size:=rfl;omega
 have hW:=q6x (s.extract 1 (s.size - 1)) w (by omega);have Hb:Hid (∀x∈Pl.qfy (s.extract 1 (s.size - 1)).data.toList,x.length<=1000000):=fun x hx=>by
  have:=Pl.qio _ [] x hx;have e:(s.extract 1 (s.size - 1)).data.toList.length=(s.extract 1 (s.size - 1)).size:=rfl;rw[e]at this;simp only[yQ]at this;omega
 generalize Pl.qfy (s.extract 1 (s.size - 1)).data.toList=L at HR hW Hb;have HW:=zH hW;clear hW hX;rw[HR.out];clear HR;have HC:=zH hc;clear hc;by_cases hf:L.length=2
 rotate_left
 ·have HD:Hid (Pl.dlOf L=⟨8,4,[],[],[]⟩):=by
   show _=_
   match L,hf with
   |[],_=>rfl
   |[_],_=>rfl
   |[_,_],h=>exact absurd rfl h
   |_::_::_::_,_=>rfl
  have Hg:((L.length:Int)==2)=false:=by rw[yf];omega
  go_enter func87,ntmps87
  go_wp2_with (go_at_call 121;refine xR HW.out ?_;rintro e w1 ⟨⟨v,rfl,hO⟩,hB⟩;obtain⟨ao,cap,rfl⟩:=hO.slice)
  (try simp only[Exit.inBlock,Exit.then]);refine bodyPost_ret (results_tmp3 rfl _ _ _) rfl ?_
  exact⟨by rw[HD.out];rfl,hB⟩
 match L,hf with
 |[a,b],_=>
 have ha:=Hb.out a (by simp);have hb:=Hb.out b (by simp);clear Hb;obtain⟨A,hA⟩:∃A:zT,A=⟨a.toArray⟩:=⟨_,rfl⟩;obtain⟨D,hD⟩:∃A:zT,A=⟨b.toArray⟩:=⟨_,rfl⟩;have Hi:A.size=a.length:=by rw[hA];exact qb1 a
 have hj:D.size=b.length:=by rw[hD];exact qb1 b
 have zA:A.size<=1000000:=by omega
 have zD:D.size<=1000000:=by omega
 have Hc:A.data.toList=a:=by rw[hA]
 have he:D.data.toList=b:=by rw[hD]
 have Ha:Hid (∀w1 g cap,qgk w.heap.size w1 (zF g 2 cap) [a,b]->w1.cell? (zO g 0)=some (.string A)/\w1.cell? (zO g 1)=some (.string D)):=by
  intro w1 g cap h;rw[hA,hD];exact⟨h.cell 0 a rfl,h.cell 1 b rfl⟩
 have HV:Hid (zdd (Pl.dlOf [a,b])=if(a.length<=3/\Pl.among 61 a=false)/\b.length<=3/\Pl.among 61 b=false then .tuple #[.string A,.string D,.bool true]else .tuple #[zS,zS,.bool false]):=by
  show _=_;rw[hA,hD];unfold Pl.dlOf Pl.qeb;simp only[yL,yN,Bool.not_eq_true'];split<;>rfl
 have oa:=Pl.q3h A.data.toList;have ob:=Pl.q3h D.data.toList;rw[Hc]at oa;rw[he]at ob;rw[<-Hc]at oa;rw[<-he]at ob;have Hf:Pl.among 61 A.data.toList=Pl.among 61 a:=by rw[Hc]
 have hg:Pl.among 61 D.data.toList=Pl.among 61 b:=by rw[he]
 rw[Hf]at oa;rw[hg]at ob;clear hA hD Hc he ha hb Hf hg;rw[HV.out];by_cases a3:a.length<=3
 rotate_left
 ·have q1:(A.size:Int) > 3:=by omega
  rw[if_neg (fun q=>a3 q.1.1)];clear HV oa ob;go_enter func87,ntmps87
  go_wp2_with (go_at_call 121;refine xR HW.out ?_;rintro e w1 ⟨⟨v,rfl,hO⟩,hB⟩;obtain⟨g,cap,rfl,_,_⟩:=qai hO (Nat.zero_lt_succ _);obtain⟨c0,c1⟩:=Ha.out w1 g cap hO)
  (try simp only[Exit.inBlock,Exit.then]);refine bodyPost_ret (results_tmp3 rfl _ _ _) rfl ?_
  exact⟨rfl,hB⟩
 have q1:¬(A.size:Int) > 3:=by omega
 by_cases b3:b.length<=3
 rotate_left
 ·have q2:(D.size:Int) > 3:=by omega
  rw[if_neg (fun q=>b3 q.2.1)];clear HV oa ob;go_enter func87,ntmps87
  go_wp2_with (go_at_call 121;refine xR HW.out ?_;rintro e w1 ⟨⟨v,rfl,hO⟩,hB⟩;obtain⟨g,cap,rfl,_,_⟩:=qai hO (Nat.zero_lt_succ _);obtain⟨c0,c1⟩:=Ha.out w1 g cap hO)
  (try simp only[Exit.inBlock,Exit.then]);refine bodyPost_ret (results_tmp3 rfl _ _ _) rfl ?_
  exact⟨rfl,hB⟩
 have q2:¬(D.size:Int) > 3:=by omega
 rcases oa with⟨q3,oa⟩|⟨q3,oa⟩
 rotate_left
 ·rw[if_neg (fun q=>by rw[oa]at q;exact absurd q.1.2 (by simp))]
  have q3':Pl.qdr A.data.toList [61] 0≥0:=q3;clear q3;clear HV ob;go_enter func87,ntmps87
  go_wp2_with (first|(go_at_call 121;refine xR HW.out ?_;rintro e w1 ⟨⟨v,rfl,hO⟩,hB⟩;obtain⟨g,cap,rfl,_,_⟩:=qai hO (Nat.zero_lt_succ _);obtain⟨c0,c1⟩:=Ha.out w1 g cap hO)|(go_at_call 81;refine cm (q1y _ _ (by first|exact zA|exact zD)) ?_))
  (try simp only[Exit.inBlock,Exit.then]);refine bodyPost_ret (results_tmp3 rfl _ _ _) rfl ?_
  exact⟨rfl,hB⟩
 have q3':¬Pl.qdr A.data.toList [61] 0≥0:=by omega
 clear q3;rcases ob with⟨q4,ob⟩|⟨q4,ob⟩
 rotate_left
 ·rw[if_neg (fun q=>by rw[ob]at q;exact absurd q.2.2 (by simp))]
  have q4':Pl.qdr D.data.toList [61] 0≥0:=q4;clear q4;clear HV;go_enter func87,ntmps87
  go_wp2_with (first|(go_at_call 121;refine xR HW.out ?_;rintro e w1 ⟨⟨v,rfl,hO⟩,hB⟩;obtain⟨g,cap,rfl,_,_⟩:=qai hO (Nat.zero_lt_succ _);obtain⟨c0,c1⟩:=Ha.out w1 g cap hO)|(go_at_call 81;refine cm (q1y _ _ (by first|exact zA|exact zD)) ?_))
  (try simp only[Exit.inBlock,Exit.then]);refine bodyPost_ret (results_tmp3 rfl _ _ _) rfl ?_
  exact⟨rfl,hB⟩
 rw[if_pos ⟨⟨a3,oa⟩,b3,ob⟩];have q4':¬Pl.qdr D.data.toList [61] 0≥0:=by omega
 clear q4;clear HV;go_enter func87,ntmps87
 go_wp2_with (first|(go_at_call 121;refine xR HW.out ?_;rintro e w1 ⟨⟨v,rfl,hO⟩,hB⟩;obtain⟨g,cap,rfl,_,_⟩:=qai hO (Nat.zero_lt_succ _);obtain⟨c0,c1⟩:=Ha.out w1 g cap hO)|(go_at_call 81;refine cm (q1y _ _ (by first|exact zA|exact zD)) ?_))
 go_region
 all_goals
  go_wp2
  (try simp only[Exit.inBlock,Exit.then]);refine bodyPost_ret (results_tmp3 rfl _ _ _) rfl ?_
  exact⟨rfl,by first|exact hB|exact hB.drew|exact Below.drewN hB _⟩
end Go.Proofs.YtfkhljmiehdgmaaGreatDoor
