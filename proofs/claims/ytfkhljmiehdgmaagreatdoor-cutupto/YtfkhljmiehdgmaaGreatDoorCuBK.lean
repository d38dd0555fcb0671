/-
  Steps of the proof.
-/
import Derived.Test.YtfkhljmiehdgmaaGreatDoorCuBG
set_option maxRecDepth 100000
set_option maxHeartbeats 40000000
namespace Go.Proofs.YtfkhljmiehdgmaaGreatDoor
open Go.RowKit Go.Proofs.Tryz Pl
theorem zay(s:zT)(w:World) :
  zC 53 #[.string s] w fun e w'=>qlf w s.data.toList e w':=by
 have hl:s.data.toList.length=s.size:=rfl;by_cases HF:2000<s.size
 ·have hv:qam s.data.toList=((1,0),[]):=by unfold qam;rw[if_pos (show 2000<s.data.toList.length from HF)]
  have HM:(s.size:Int) > 2000:=by omega
  obtain⟨Q,he⟩:∃Q:Ending->World->Prop,Q=qlf w s.data.toList:=⟨_,rfl⟩;rw[show(fun e w'=>qlf w s.data.toList e w')=Q from he.symm];go_enter func53,ntmps53
  go_wp2
  try rw[he]
  refine bodyPost_ret (qe4 (cs:=#[zI 1,zI 0]) results53 _ _ w.heap.size _ rfl (qaa (xF w _)) underlying130 rfl qq2) rfl ?_;exact⟨⟨_,by rw[hv];rfl,fun h=>absurd (by rw[hv]at h;exact h) (by decide:¬(1:Nat)=0)⟩,zB _⟩
 have hs:s.size<=1000000:=by omega
 have H2:¬(s.size:Int) > 2000:=by omega
 obtain⟨Q,he⟩:∃Q:Ending->World->Prop,Q=qlf w s.data.toList:=⟨_,rfl⟩;rw[show(fun e w'=>qlf w s.data.toList e w')=Q from he.symm];obtain⟨O0,HN⟩:∃O0:zT,O0=⟨#[123,123]⟩:=⟨_,rfl⟩;obtain⟨C0,hO⟩:∃C0:zT,C0=⟨#[125,125]⟩:=⟨_,rfl⟩;go_enter func53,ntmps53
 go_wp2
 generalize hW:World.alloc w _=W0;have H0:Hid (PaRd w W0 s.data.toList O0 C0 [] [] 0 [] (zN) (zN)):=by
  subst hW;refine⟨⟨xF w _,World.ownsRow_nil _ _ _ _,World.ownsRow_nil _ _ _ _,zB _⟩,q76,?_,?_⟩
  ·rw[HN,hO];exact qik _
  ·rw[HN,hO];exact qrg _ (by omega)
 clear hW;rw[<-HN,<-hO];clear HN hO;go_loopw [4,5,6,7,8] (fun o c' v6 v7 v8 wr=>∃(OP CL:zT) (parts:List Pt) (op:List Nat) (a:Nat) (L:List Rm),o=.string OP/\c'=.string CL/\v8=zI a/\Hid (PaRd w wr s.data.toList OP CL parts op a L v6 v7)) (fun _ _ _ _ v8 _=>s.size+1 - (intOf v8).toNat)
 case atStart=>exact⟨O0,C0,[],[],0,[],rfl,rfl,rfl,H0⟩
 case round=>
  clear H0;obtain⟨OP,CL,parts,op,a,L,rfl,rfl,rfl,H⟩:=hrel;have hOP:OP.size<=3/\1<=OP.size:=⟨H.out.ok.op.2,H.out.ok.op.1⟩;have hCL:CL.size<=3/\1<=CL.size:=⟨H.out.ok.cl.2,H.out.ok.cl.1⟩;have ha:a<=s.size:=H.out.ok.le;have Hu:OP.size<=1000000:=by omega
  have hQ:CL.size<=1000000:=by omega
  rcases q3i s.data.toList OP.data.toList a with hf|⟨o,hf⟩
  ·have HV:Hid (∀d,(⟨OP.data.toList,CL.data.toList,parts,op⟩:Ct).addText s.data.toList a s.data.toList.length=d->qam s.data.toList=if d.left.1=0 then((0,0),d.parts)else(d.left,[])):=by
    rintro d rfl;have:=H.out.eq;rw[qwz (zhk (c:=⟨OP.data.toList,CL.data.toList,parts,op⟩) (by rw[hf];decide))]at this;exact this
   have HA:=zH H.out.at_;have HL:=zH H.out.of_;have hN:L.length<=1000000:=by
    have h1:=H.out.of_.len;have h2:=H.out.ok.few;rw[h1];exact yh h2 (by omega)
   have hwz:=H.out.at_.lt;obtain⟨i0,hi,H7,H8,HQ⟩:=info_parts q3c;obtain⟨ao6,cap6,rfl⟩:=qaq HA.out.out;obtain⟨ao7,cap7,rfl⟩:=qaq HA.out.sc;by_cases hR:a<s.size
   ·have H9:(a:Int)<(s.size:Int):=by omega
    by_cases Hl:op=[]
    ·subst Hl
     have Hk:Hid (qam s.data.toList=((0,0),parts++[⟨1,a,(s.extract a s.size).data.toList,0⟩])):=by
      have:=HV.out _ rfl;unfold Ct.addText at this;rw[if_pos (show a<s.data.toList.length from hR)]at this;rw[qco];exact this
     clear H HV;go_wp2_with (first|(go_at_call 81;refine cm (qj7 s _ _ _ _ rfl hs Hu ha) ?_;rw[hf])|(at_builtin;refine wpList_append_own _ rfl _ _ 97 rfl w.heap.size 136 i0 (.agg #[zI 0,zI 0,zS,zN,.bool false,zI 0]) 6 72 underlying97 hi H7 H8 HQ rfl (by decide) _ _ _ rfl (World.ownsRow.alloc HA.out.out _) (zO wr.heap.size 0) 1 1 [zI 0,zI a,.string (s.extract a s.size),zN,.bool false,zI 0] rfl rfl (qcn _ _ _) (by intro u hu;simp at hu;rcases hu with rfl|rfl|rfl|rfl|rfl|rfl<;>rfl) (by unfold maxLen;omega) (by omega) (by simp;omega) ?_))
     intro v' w1 D Ha _
     as_aux_lemma=>
     have V:=zH (HA.out.more ((zB _)) (qsq a (s.extract a s.size).data.toList) D Ha);have Hb:=zH (HL.out.snoc _ _ (qqe _ a (s.extract a s.size).data.toList));clear D Ha HA HL;have hr:=V.out.res;have J:=qaa hr;have c0:=J 0 _ rfl;have c1:=J 1 _ rfl;have f0:=xH w1 w.heap.size 0 _ _ hr;have f1:=xH w1 w.heap.size 1 _ _ hr;clear hr J;go_wp2
     try rw[he]
     exact zg6 V.out Hk.out Hb.out rfl rfl rfl
    ·have hop7:op.length<=6:=H.out.ok.six
     obtain⟨m,hm⟩:∃m,op.getLast?=some m:=by
      cases h:op.getLast? with
      |none=>exact absurd (List.getLast?_eq_none_iff.1 h) Hl
      |some m=>exact⟨m,rfl⟩
     have Hf:0<op.length:=List.length_pos_iff.2 Hl;have Z:op[op.length - 1]?=some m:=by rw[<-List.getLast?_eq_getElem?];exact hm
     have Hm:m<parts.length:=H.out.ok.wf.lt m (yl Z);have Hk:Hid (qam s.data.toList=((7,qk2 (parts++[⟨1,a,(s.extract a s.size).data.toList,0⟩]) m),[])):=by
      have:=HV.out _ rfl;unfold Ct.addText at this;rw[if_pos (show a<s.data.toList.length from hR)]at this;rw[qco];unfold Ct.left at this;simp only[hm]at this;exact this
     obtain⟨g7,cap7,h7,_,_⟩:=qai HA.out.sc Hf;injection h7 with h7 _ _;subst h7;clear H HV Hl;go_wp2_with (first|(go_at_call 81;refine cm (qj7 s _ _ _ _ rfl hs Hu ha) ?_;rw[hf])|(at_builtin;refine wpList_append_own _ rfl _ _ 97 rfl w.heap.size 136 i0 (.agg #[zI 0,zI 0,zS,zN,.bool false,zI 0]) 6 72 underlying97 hi H7 H8 HQ rfl (by decide) _ _ _ rfl (World.ownsRow.alloc HA.out.out _) (zO wr.heap.size 0) 1 1 [zI 0,zI a,.string (s.extract a s.size),zN,.bool false,zI 0] rfl rfl (qcn _ _ _) (by intro u hu;simp at hu;rcases hu with rfl|rfl|rfl|rfl|rfl|rfl<;>rfl) (by unfold maxLen;omega) (by omega) (by simp;omega) ?_))
     intro v' w1 D Ha _
     as_aux_lemma=>
     have V:=zH (HA.out.more ((zB _)) (qsq a (s.extract a s.size).data.toList) D Ha);have Hb:=zH (HL.out.snoc _ _ (qqe _ a (s.extract a s.size).data.toList));clear D Ha HA HL;have Hv:m<(parts++[Pt.mk 1 a (s.extract a s.size).data.toList 0]).length:=by rw[yJ];exact yi Hm (Nat.le_add_right _ _)
     generalize L++[qsq a (s.extract a s.size).data.toList]=L2 at V Hb;generalize parts++[Pt.mk 1 a (s.extract a s.size).data.toList 0]=P2 at Hb Hk Hv;have Y:m<L2.length:=by rw[Hb.out.len];exact Hv
     obtain⟨g6,cap6',h6,_,_⟩:=qai V.out.out (by omega);subst h6;have hG:w1.cell? (zO g7 (op.length - 1))=some (zI m):=by
      rw[World.ownsRow.cellAt V.out.sc (op.length - 1) (by omega)];unfold qb0;rw[yz,Z];rfl
     obtain⟨r,hr⟩:∃r,L2[m]?=some r:=⟨_,yc Y⟩;obtain⟨p,hp⟩:∃p,P2[m]?=some p:=⟨_,yc Hv⟩;have hg:qk2 P2 m=r.pos:=by
      unfold qk2;rw[hp,(Hb.out.each m r p hr hp).pos]
     have Hc:w1.cell? (zO g6 (m*6+1))=some (zI r.pos):=by
      rw[World.ownsRow.cellAt V.out.out (m*6+1) (yi (by omega:m*6+1<(m+1)*6) (xE 6 Y))];exact qd5 _ m r hr 1 _ rfl
     have Hz:=zH Hk.out;rw[hg]at Hz;have HG:(m:Int)<((L2.length:Nat):Int):=by omega
     have hw:(op.length:Int) > 0:=by omega
     have h0':(0:Int)<=(op.length:Int) - 1:=by omega
     have HB:=zH V.out.below;have HR:=zH V.out.res;generalize r.pos=rp at Hc Hz;have Hn:=V.out.res;have J:=qaa Hn;have c0:=J 0 _ rfl;have c1:=J 1 _ rfl;have f0:=xH w1 w.heap.size 0 _ _ Hn;have f1:=xH w1 w.heap.size 1 _ _ Hn;clear Hn J Hk hr hp hg Y V Hb;go_wp2
     go_region
     all_goals
      go_wp2
      try rw[he]
      exact quv (wr:=w1.drew) HR.out HB.out.drew Hz.out (by decide) rfl rfl rfl
   ·have H9:¬(a:Int)<(s.size:Int):=by omega
    by_cases Hl:op=[]
    ·subst Hl
     have Hk:Hid (qam s.data.toList=((0,0),parts)):=by
      have:=HV.out _ rfl;unfold Ct.addText at this;rw[if_neg (show ¬a<s.data.toList.length from hR)]at this;exact this
     have hr:=HA.out.res;have J:=qaa hr;have c0:=J 0 _ rfl;have c1:=J 1 _ rfl;have f0:=xH wr w.heap.size 0 _ _ hr;have f1:=xH wr w.heap.size 1 _ _ hr;clear hr J H HV;go_wp2_with (go_at_call 81;refine cm (qj7 s _ _ _ _ rfl hs Hu ha) ?_;rw[hf])
     try rw[he]
     exact zg6 HA.out Hk.out HL.out rfl rfl rfl
    ·have hop7:op.length<=6:=H.out.ok.six
     obtain⟨m,hm⟩:∃m,op.getLast?=some m:=by
      cases h:op.getLast? with
      |none=>exact absurd (List.getLast?_eq_none_iff.1 h) Hl
      |some m=>exact⟨m,rfl⟩
     have Hf:0<op.length:=List.length_pos_iff.2 Hl;have Z:op[op.length - 1]?=some m:=by rw[<-List.getLast?_eq_getElem?];exact hm
     have Hm:m<parts.length:=H.out.ok.wf.lt m (yl Z);have Hk:Hid (qam s.data.toList=((7,qk2 parts m),[])):=by
      have:=HV.out _ rfl;unfold Ct.addText at this;rw[if_neg (show ¬a<s.data.toList.length from hR)]at this;unfold Ct.left at this;simp only[hm]at this;exact this
     obtain⟨g7,cap7,h7,_,_⟩:=qai HA.out.sc Hf;injection h7 with h7 _ _;subst h7;clear H HV Hl;have V:=HA;have Hb:=HL;have hL0:0<L.length:=by rw[HL.out.len];omega
     obtain⟨g6,cap6',h6,_,_⟩:=qai V.out.out hL0;injection h6 with h6 _ _;subst h6;clear HA HL;have hG:wr.cell? (zO g7 (op.length - 1))=some (zI m):=by
      rw[World.ownsRow.cellAt V.out.sc (op.length - 1) (by omega)];unfold qb0;rw[yz,Z];rfl
     have Y:m<L.length:=by rw[Hb.out.len];exact Hm
     obtain⟨r,hr⟩:∃r,L[m]?=some r:=⟨_,yc Y⟩;obtain⟨p,hp⟩:∃p,parts[m]?=some p:=⟨_,yc Hm⟩;have hg:qk2 parts m=r.pos:=by
      unfold qk2;rw[hp,(Hb.out.each m r p hr hp).pos]
     have Hc:wr.cell? (zO g6 (m*6+1))=some (zI r.pos):=by
      rw[World.ownsRow.cellAt V.out.out (m*6+1) (yi (by omega:m*6+1<(m+1)*6) (xE 6 Y))];exact qd5 _ m r hr 1 _ rfl
     have Hz:=zH Hk.out;rw[hg]at Hz;have HG:(m:Int)<(L.length:Int):=by omega
     have hw:(op.length:Int) > 0:=by omega
     have h0':(0:Int)<=(op.length:Int) - 1:=by omega
     have HB:=zH V.out.below;have HR:=zH V.out.res;generalize r.pos=rp at Hc Hz;have Hn:=V.out.res;have J:=qaa Hn;have c0:=J 0 _ rfl;have c1:=J 1 _ rfl;have f0:=xH wr w.heap.size 0 _ _ Hn;have f1:=xH wr w.heap.size 1 _ _ Hn;clear Hn J Hk hr hp hg Y V Hb;go_wp2_with (go_at_call 81;refine cm (qj7 s _ _ _ _ rfl hs Hu ha) ?_;rw[hf])
     go_region
     all_goals
      go_wp2
      try rw[he]
      exact quv (wr:=wr.drew) HR.out HB.out.drew Hz.out (by decide) rfl rfl rfl
  have ho:=q9r (by omega:a<=s.data.toList.length) hf;have e3:OP.data.toList.length=OP.size:=rfl;have e4:CL.data.toList.length=CL.size:=rfl;rw[e3,hl]at ho;have hS:=ho.2;have hU:Hid ((o:Int)+(OP.size:Int)=((o+OP.size:Nat):Int)):=by show _=_;omega
  have h5:(o:Int)+(OP.size:Int)<=(s.size:Int):=by omega
  have ho0:¬(o:Int)<0:=by omega
  rcases q3i s.data.toList CL.data.toList (o+OP.size)with Hw|⟨z,Hw⟩
  ·as_aux_lemma=>
   have HV:Hid (qam s.data.toList=((2,o),[])):=by
    have:=H.out.eq;rw[qfo (zhl (c:=⟨OP.data.toList,CL.data.toList,parts,op⟩) (by omega) hf (by rw[e3,Hw];decide))]at this;exact this
   have HR:=zH H.out.at_.res;have hr:=H.out.at_.res;have J:=qaa hr;have c0:=J 0 _ rfl;have c1:=J 1 _ rfl;have f0:=xH wr w.heap.size 0 _ _ hr;have f1:=xH wr w.heap.size 1 _ _ hr;have HB:=zH H.out.at_.below;clear H hr J ho;go_wp2_with (go_at_call 81;refine cm (qj7 s _ _ _ _ (by first|exact hU.out|exact rfl) hs (by first|exact Hu|exact hQ) (by first|exact hS|exact ha)) ?_;first|rw[hf]|rw[Hw])
   try rw[he]
   exact quv HR.out HB.out HV.out (by decide) rfl rfl rfl
  ·have hz:=q9r (by omega:o+OP.size<=s.data.toList.length) Hw
   rw[e4,hl]at hz;have H8:=hz.1;have HQ:=hz.2;have H7:¬(z:Int)<0:=by omega
   have h6:(o:Int)+(OP.size:Int)<=(z:Int):=by omega
   have h7:(z:Int)+(CL.size:Int)<=(s.size:Int):=by omega
   obtain⟨I,hI⟩:∃I:zT,I=⟨(Go.Lib.trimS (qh8 s.data.toList (o+OP.size) z) qag).toArray⟩:=⟨_,rfl⟩;have HT:Hid (∀w,zC 82 #[.string (s.extract (o+OP.size) z)] w (zQ (.string I) w)):=by
    intro w;have e:(s.extract (o+OP.size) z).data.toList=qh8 s.data.toList (o+OP.size) z:=by rw[qco];rfl
    have:=qpw (s.extract (o+OP.size) z) w (by rw[qco,qb1,yP];omega)
    rwa [e,<-hI]at this
   have hIl:I.data.toList=Go.Lib.trimS (qh8 s.data.toList (o+OP.size) z) qag:=by rw[hI]
   have HS:Hid (∀l,(if(qba I.data.toList).kind≠2 then qel s.data.toList o (z+CL.size) else(o,z+CL.size))=l->(⟨OP.data.toList,CL.data.toList,parts,op⟩:Ct).step s.data.toList a=if(((⟨OP.data.toList,CL.data.toList,parts,op⟩:Ct).addText s.data.toList a l.1).take (qba I.data.toList) o).1≠0 then .slip (((⟨OP.data.toList,CL.data.toList,parts,op⟩:Ct).addText s.data.toList a l.1).take (qba I.data.toList) o).1 o
     else .next (((⟨OP.data.toList,CL.data.toList,parts,op⟩:Ct).addText s.data.toList a l.1).take (qba I.data.toList) o).2 l.2):=by
    intro l h;rw[hIl]at h |-;exact zia (c:=⟨OP.data.toList,CL.data.toList,parts,op⟩) (by omega) hf Hw l h
   have HIr:Hid (Go.Lib.trimRightS I.data.toList qag=I.data.toList):=by
    show _=_;rw[hIl,<-Pl.qpx];exact trR_idem _ _
   have HIs:Hid (I.size<=1000000):=by
    show _<=_;rw[hI,qb1];unfold Go.Lib.trimS qh8;have h8:=qiq (Go.Lib.trimRightS ((s.data.toList.drop (o+OP.size)).take (z - (o+OP.size))) qag) qag;have h9:=qmd ((s.data.toList.drop (o+OP.size)).take (z - (o+OP.size))) qag;rw[yP]at h9;omega
   clear hI hIl;by_cases hI0:I.size=0
   ·as_aux_lemma=>
    have hIe:I=⟨#[]⟩:=xi (Array.eq_empty_of_size_eq_zero hI0);subst hIe;have HV:Hid (qam s.data.toList=((3,o),[])):=by
     have:=H.out.eq;rw[qfo (HS.out _ rfl)]at this;exact this
    have HA:=zH H.out.at_;clear H HS;go_wp2_with (first|(go_at_call 81;refine cm (qj7 s _ _ _ _ (by first|exact hU.out|exact rfl) hs (by first|exact Hu|exact hQ) (by first|exact hS|exact ha)) ?_;first|rw[hf]|rw[Hw])|(go_at_call 82;refine cm (HT.out _) ?_)|(go_at_call 83;refine(q8d o _).mono ?_;rintro e w1 ⟨rfl,Ho⟩;unfold qcb;have V:=zH (HA.out.kept ((zB _).trans (Ho.mono (by simp))));have c0:=fun ob=>qaa (V.out.kept (zB ob)).res 0 _ rfl;have c1:=fun ob=>qaa (V.out.kept (zB ob)).res 1 _ rfl;have f0:=fun ob=>xH (w1.alloc ob) w.heap.size 0 _ _ (V.out.kept (zB ob)).res;have f1:=fun ob=>xH (w1.alloc ob) w.heap.size 1 _ _ (V.out.kept (zB ob)).res;clear Ho))
    try rw[he]
    exact quv (wr:=w1.alloc _) (V.out.kept (zB _)).res (V.out.kept (zB _)).below HV.out (by decide) rfl rfl rfl
   ·have hIp:0<I.size:=Nat.pos_of_ne_zero hI0
    have hIs:I.size<=1000000:=HIs.out;have hIne:(I.toList==[])=false:=by
     rw[ByteArray.toList_eq,yf];intro e;have:I.data.toList.length=I.size:=rfl;rw[e]at this;simp at this;omega
    have hI0':(0:Int)<(I.size:Int):=by omega
    have eI:I.data.toList=I[0]::I.data.toList.drop 1:=by
     have:=yo (show 0<I.data.toList.length from hIp)
     rwa [List.drop_zero]at this
    have Hp:=zH eI;clear eI;have HP:=zH (fun w=>qsx I o w hIs hIp);have q33:((I[0].toNat:Int)==33)=(I[0]==33):=qil I[0] 33 (by decide);have q61:((I[0].toNat:Int)==61)=(I[0]==61):=qil I[0] 61 (by decide);have hN:L.length<=1000000:=by
     have h1:=H.out.of_.len;have h2:=H.out.ok.few;rw[h1];exact yh h2 (by omega)
    by_cases hA:(I[0]≠33/\I[0]≠61)/\Pl.pcOk (Pl.qcg I[0]) I.data.toList=false
    ·as_aux_lemma=>
     obtain⟨⟨Hq,He⟩,Hx⟩:=hA;have X:=zH (Pl.qlr I[0] (I.data.toList.drop 1) Hq He (by rw[<-Hp.out];exact HIr.out));rw[<-Hp.out]at X;rw[yf.2 Hq]at q33;rw[yf.2 He]at q61;clear Hp;generalize Pl.qcg I[0]=mn at X HP Hx;have HV:Hid (qam s.data.toList=((3,o),[])):=by
      have:=H.out.eq;have hsl:=X.out.2.1;rw[Hx,if_neg (by simp)]at hsl;have y:=HS.out _ rfl;unfold Ct.take at y;rw[hsl]at y;rw[qfo (y.trans rfl)]at this;exact this
     have HA:=zH H.out.at_;clear H HS X;go_wp2_with (first|(go_at_call 81;refine cm (qj7 s _ _ _ _ (by first|exact hU.out|exact rfl) hs (by first|exact Hu|exact hQ) (by first|exact hS|exact ha)) ?_;first|rw[hf]|rw[Hw])|(go_at_call 82;refine cm (HT.out _) ?_)|(go_at_call 83;refine(HP.out _).mono ?_;rintro e w1 ⟨⟨ao,n,cap,rfl⟩,Ho⟩;unfold qcb;rw[Hx,if_neg Bool.false_ne_true];have V:=zH (HA.out.kept ((zB _).trans (Ho.mono (by simp))));have c0:=fun ob=>qaa (V.out.kept (zB ob)).res 0 _ rfl;have c1:=fun ob=>qaa (V.out.kept (zB ob)).res 1 _ rfl;have f0:=fun ob=>xH (w1.alloc ob) w.heap.size 0 _ _ (V.out.kept (zB ob)).res;have f1:=fun ob=>xH (w1.alloc ob) w.heap.size 1 _ _ (V.out.kept (zB ob)).res;clear Ho))
     try rw[he]
     exact quv (wr:=w1.alloc _) (V.out.kept (zB _)).res (V.out.kept (zB _)).below HV.out (by decide) rfl rfl rfl
    obtain⟨sil,K,tx,tn,hpk,HI⟩:=Pl.zff Hp.out HIr.out (by
     by_cases h1:I[0]=33
     ·exact .inl h1
     by_cases h2:I[0]=61
     ·exact .inr (.inl h2)
     ·right;right
      cases h3:Pl.pcOk (Pl.qcg I[0]) I.data.toList
      ·exact absurd ⟨⟨h1,h2⟩,h3⟩ hA
      ·rfl)
    have hD:=zH hpk;have HU:=(show Hid (sil=(I[0]==33 || I[0]==61))from HI);clear hpk HI hA;have HA:=zH H.out.at_;have HL:=zH H.out.of_;obtain⟨ao6,cap6,rfl⟩:=qaq HA.out.out;have HK:Hid (∀k,(Value.slice ao6 L.length cap6).ownBlock=some k->k≠wr.heap.size):=fun k hk=>Nat.ne_of_lt (HA.out.out.lt k hk).2;obtain⟨i0,hi,Hr,Hs,Ht⟩:=info_parts q3c;obtain⟨i1,hj,hj0,hj1,hj2⟩:=info_parts q3d
    have O:Hid (∀l1 l2:Nat,l1=(if(!(K==1) && (Pl.emp s.data.toList (Pl.lnF s.data.toList o) o && Pl.emp s.data.toList (z+CL.size) (Pl.lnT s.data.toList (z+CL.size))))=true then Pl.lnF s.data.toList o else o)->l2=(if(!(K==1) && (Pl.emp s.data.toList (Pl.lnF s.data.toList o) o && Pl.emp s.data.toList (z+CL.size) (Pl.lnT s.data.toList (z+CL.size))))=true then(if Pl.lnT s.data.toList (z+CL.size)<s.data.toList.length then Pl.lnT s.data.toList (z+CL.size)+1 else Pl.lnT s.data.toList (z+CL.size)) else z+CL.size) ->
      (⟨OP.data.toList,CL.data.toList,parts,op⟩:Ct).step s.data.toList a=if(((⟨OP.data.toList,CL.data.toList,parts,op⟩:Ct).addText s.data.toList a l1).take (qba I.data.toList) o).1≠0 then .slip (((⟨OP.data.toList,CL.data.toList,parts,op⟩:Ct).addText s.data.toList a l1).take (qba I.data.toList) o).1 o
      else .next (((⟨OP.data.toList,CL.data.toList,parts,op⟩:Ct).addText s.data.toList a l1).take (qba I.data.toList) o).2 l2):=by
     intro l1 l2 h1 h2;exact HS.out (l1,l2) (Pl.q5q hD.out.one (by omega) (by omega) h1 h2)
    clear HS;go_upto_region 16 with(first|(go_at_call 81;refine cm (qj7 s _ _ _ _ (by first|exact hU.out|exact rfl) hs (by first|exact Hu|exact hQ) (by first|exact hS|exact ha)) ?_;first|rw[hf]|rw[Hw])|(go_at_call 82;refine cm (HT.out _) ?_))
    have H3:Hid (PaAt w (wr.alloc (.cells #[zI 0,zI 0,zS,zN,.bool false,zI 0] 136)) L op (.slice ao6 L.length cap6) u7/\(wr.alloc (.cells #[zI 0,zI 0,zS,zN,.bool false,zI 0] 136)).heap[wr.heap.size]?=zK (qcb 0 0 ⟨#[]⟩ (zN) false 0) 136):=⟨HA.out.kept (zB _),xF wr _⟩;have hPB:=HA.out.lt;generalize World.alloc wr _=w1 at H3 |-;generalize wr.heap.size=PB at H3 HK hPB |-;clear HA HT HIs;go_cut [14]from 29 to 219 (fun s14 wx=>s14=.bool sil/\wx=w1)
    case first=>
     as_aux_lemma=>
     cases Hq:I[0]==33<;>cases He:I[0]==61
     all_goals
      rw[Hq]at q33;rw[He]at q61;go_wp2
      go_meet
      exact⟨by rw[HU.out,Hq,He];rfl,rfl⟩
    case rest=>
    obtain⟨rfl,rfl⟩:=hcut;go_upto_if 72 with fail
    go_cut [15,16]from 29 to 219 (fun s15 s16 wx=>∃(ps:Nat) (ao:Option Addr) (n cap:Nat),Hid (PaAt w wx L op (.slice ao6 L.length cap6) u7/\wx.heap[PB]?=zK (qcb K ps ⟨tx.toArray⟩ (.slice ao n cap) tn 0) 136/\(sil=false->ps=o)))
    case first=>
     as_aux_lemma=>
     cases sil
     ·have hV:Hid (∀w,zC 83 #[.string I,zI o] w fun e w'=>(∃ao n cap,e=.returned (.tuple #[.agg (qcb K o ⟨tx.toArray⟩ (.slice ao n cap) tn 0),zI 0]))/\zW w w'):=by
       obtain⟨_,_,Hx,hK,hx,ht⟩:=hD.out.op rfl;intro w;have:=qsx I o w hIs hIp;rw[Hx,if_pos rfl,<-hK,<-hx,<-ht]at this;exact this
      have HLT:=(show Hid _ from(ya.1 H3.out.2).1);clear HP;go_wp2_with (go_at_call 83;refine(hV.out _).mono ?_;rintro e w2 ⟨⟨ao,n,cap,rfl⟩,Ho⟩;unfold qcb;have H4:=zH (And.intro (H3.out.1.kept Ho) ((Ho.block _ HLT.out).trans H3.out.2));have Hb:=(show Hid _ from(ya.1 H4.out.2).1);have hB:=fun ob=>qaa ((xI w2 ob Hb.out).trans H4.out.2);have Hg:=fun ob j=>xH (w2.alloc ob) PB j _ _ ((xI w2 ob Hb.out).trans H4.out.2);have p0:=fun ob=>hB ob 0 _ rfl;have p1:=fun ob=>hB ob 1 _ rfl;have p2:=fun ob=>hB ob 2 _ rfl;have p3:=fun ob=>hB ob 3 _ rfl;have p4:=fun ob=>hB ob 4 _ rfl;have p5:=fun ob=>hB ob 5 _ rfl;have g0:=fun ob=>Hg ob 0;have g1:=fun ob=>Hg ob 1;have g2:=fun ob=>Hg ob 2;have g3:=fun ob=>Hg ob 3;have g4:=fun ob=>Hg ob 4;have g5:=fun ob=>Hg ob 5;clear hB Hg Ho;dsimp only)
      go_meet
      have hX:=(H4.out.1.kept (zB (.cells (qcb K o ⟨tx.toArray⟩ (.slice ao n cap) tn 0) 136))).six ((xI w2 _ Hb.out).trans H4.out.2) (fun e=>HK.out _ e rfl) (yj hPB) K o ⟨tx.toArray⟩ (.slice ao n cap) tn 0;exact⟨o,ao,n,cap,hX.1,hX.2,fun _=>rfl⟩
     ·go_wp2
      go_meet
      obtain⟨rfl,rfl,rfl,_⟩:=hD.out.sl rfl;exact⟨0,none,0,0,H3.out.1,H3.out.2,(fun h=>nomatch h)⟩
    case rest=>
    obtain⟨ps,ao,n,cap,H5⟩:=hcut;clear H3;have H6:=zH (And.intro H5.out.1 H5.out.2.1);have HPS:=zH H5.out.2.2;clear H5;generalize hF:Pl.lnF s.data.toList o=F at O |-;generalize hT:Pl.lnT s.data.toList (z+CL.size)=T at O |-;generalize hE1:Pl.emp s.data.toList F o=e1 at O |-;generalize hE2:Pl.emp s.data.toList (z+CL.size) T=e2 at O |-;have hFo:F<=o:=by rw[<-hF];exact Pl.q22 _ _
    have HW:=Pl.zd7 s.data.toList (z+CL.size) (by omega);rw[hT,hl]at HW;have hT1:=HW.1;have hT2:=HW.2;clear HW;have HzB:Hid ((z:Int)+(CL.size:Int)=((z+CL.size:Nat):Int)):=by show _=_;omega
    have hoS:o<=s.size:=by omega
    have p0:=qaa H6.out.2 0 _ rfl;go_upto_region 26 with(first|(go_at_call 84;refine cm (qxj s o _ hs (by omega)) ?_;rw[hF])|(go_at_call 85;refine cm (zfo s _ _ _ HzB.out hs HQ) ?_;rw[hT]))
    go_cut [107]from 29 to 219 (fun s107 wx=>s107=.bool (!(K==1) && (e1 && e2))/\wx=wc)
    case first=>
     as_aux_lemma=>
     cases hJ:K==1
     ·have hk1':(K != 1)=true:=by rw[bne,hJ];rfl
      cases e1
      ·go_wp2_with (go_at_call 86;refine cm (q3s s _ _ _ _ rfl hs hoS hFo) ?_;rw[hE1])
       go_meet
       exact⟨by rw[hJ];rfl,rfl⟩
      cases e2
      all_goals
       go_wp2_with (go_at_call 86;refine cm (q3s s _ _ _ _ (by first|exact HzB.out|exact rfl) hs (by first|exact hT2|exact hoS) (by first|exact hT1|exact hFo)) ?_;first|rw[hE1]|rw[hE2])
       go_meet
       exact⟨by rw[hJ];rfl,rfl⟩
     ·have hk1':(K != 1)=false:=by rw[bne,hJ];rfl
      go_wp2
      go_meet
      exact⟨by rw[hJ];rfl,rfl⟩
    case rest=>
    obtain⟨rfl,rfl⟩:=hcut;obtain⟨l1,hl1⟩:∃l1:Nat,l1=if(!(K==1) && (e1 && e2))=true then F else o:=⟨_,rfl⟩;obtain⟨l2,HM⟩:∃l2:Nat,l2=if(!(K==1) && (e1 && e2))=true then(if T<s.size then T+1 else T)else z+CL.size:=⟨_,rfl⟩;have O:=zH (O.out l1 l2 hl1 HM);have hE:=(show Hid (l1=_)from hl1);have HJ:=(show Hid (l2=_)from HM);clear hl1 HM hF hT hE1 hE2;generalize (!(K==1) && (e1 && e2))=ee at hE HJ |-;go_upto_if 107 with fail
    go_cut [17,18]from 29 to 219 (fun s17 s18 wx=>s17=zI l1/\s18=zI l2/\wx=wc)
    case first=>
     as_aux_lemma=>
     cases ee
     ·go_wp2
      go_meet
      exact⟨by rw[hE.out];rfl,by rw[HJ.out];simp,rfl⟩
     ·by_cases hTs:T<s.size
      ·have hTs':(T:Int)<(s.size:Int):=by omega
       go_wp2
       go_meet
       exact⟨by rw[hE.out];rfl,by rw[HJ.out];simp[hTs],rfl⟩
      ·have hTs':¬(T:Int)<(s.size:Int):=by omega
       go_wp2
       go_meet
       exact⟨by rw[hE.out];rfl,by rw[HJ.out];simp[hTs],rfl⟩
    case rest=>
    obtain⟨rfl,rfl,rfl⟩:=hcut;go_upto_if 118 with fail
    have hl1s:l1<=s.size:=by
     rw[hE.out];split<;>omega
    clear hE HJ;go_cut [6]from 29 to 219 (fun s6 wx=>∃L2,Hid (RmsOf L2 (((⟨OP.data.toList,CL.data.toList,parts,op⟩:Ct).addText s.data.toList a l1).parts)/\PaAt w wx L2 op s6 u7/\wx.heap[PB]?=zK (qcb K ps ⟨tx.toArray⟩ (.slice ao n cap) tn 0) 136))
    case first=>
     by_cases hla:a<l1
     ·have hla':(l1:Int) > (a:Int):=by omega
      have h1s':(l1:Int)<=(s.size:Int):=by omega
      have h1a':(a:Int)<=(l1:Int):=by omega
      have hwz3:=H6.out.1.lt;go_wp2_with (at_builtin;refine wpList_append_own _ rfl _ _ 97 rfl w.heap.size 136 i0 (.agg #[zI 0,zI 0,zS,zN,.bool false,zI 0]) 6 72 underlying97 hi Hr Hs Ht rfl (by decide) _ _ _ rfl (World.ownsRow.alloc H6.out.1.out _) _ 1 1 [zI 0,zI a,.string (s.extract a l1),zN,.bool false,zI 0] rfl rfl (qcn _ _ _) (by intro u hu;simp at hu;rcases hu with rfl|rfl|rfl|rfl|rfl|rfl<;>rfl) (by unfold maxLen;omega) (by omega) (by simp;omega) ?_)
      intro v' w5 D Ha _
      as_aux_lemma=>
      have hm:=H6.out.1.more (zB _) (qsq a (s.extract a l1).data.toList) D Ha;have hp:=(Ha.block PB (by rw[qlo];have:=(ya.1 H6.out.2).1;omega) (fun e=>HK.out _ e.symm rfl)).trans ((xI _ _ (ya.1 H6.out.2).1).trans H6.out.2);have hr:RmsOf (L++[qsq a (s.extract a l1).data.toList]) (((⟨OP.data.toList,CL.data.toList,parts,op⟩:Ct).addText s.data.toList a l1).parts):=by
       unfold Ct.addText;rw[if_pos hla,qco];exact HL.out.snoc _ _ (qqe _ a _)
      have HX:=zH (And.intro hr (And.intro hm hp));clear hm hp hr D Ha;go_wp2
      go_meet
      exact⟨_,HX⟩
     ·have hla':¬(l1:Int) > (a:Int):=by omega
      go_wp2
      go_meet
      refine⟨L,?_,H6.out.1,H6.out.2⟩;unfold Ct.addText;rw[if_neg hla];exact HL.out
    case rest=>
    obtain⟨L2,HX⟩:=hcut;clear H6 HL p0;have hN2:L2.length<=1000001:=by
     have h1:=HX.out.1.len;have h2:=H.out.ok.few;have h3:(((⟨OP.data.toList,CL.data.toList,parts,op⟩:Ct).addText s.data.toList a l1).parts).length<=parts.length+1:=by
      unfold Ct.addText;split
      ·simp
      ·simp
     have h4:parts.length<=a:=h2;omega
    obtain⟨dl,hdl⟩:∃dl,dl=(sil && (I[0]==61)):=⟨_,rfl⟩;have HE:=(show Hid (dl=_)from hdl);clear hdl;go_upto_region 35 with fail
    go_cut [133]from 29 to 219 (fun s133 wx=>s133=.bool dl/\wx=wc)
    case first=>
     as_aux_lemma=>
     cases sil
     ·have e:dl=false:=HE.out
      subst e;go_wp2
      go_meet
      exact⟨rfl,rfl⟩
     ·cases He:I[0]==61
      all_goals
       rw[He]at q61;go_wp2
       go_meet
       exact⟨by rw[HE.out,He];rfl,rfl⟩
    case rest=>
    obtain⟨rfl,rfl⟩:=hcut;generalize Hg:((⟨OP.data.toList,CL.data.toList,parts,op⟩:Ct).addText s.data.toList a l1).parts=P2 at HX;have y:=O.out;rw[addText_keeps,Hg]at y;have O:=zH y;clear y;have hV:=(show Hid (_=P2)from Hg);clear Hg;cases sil
    rotate_left
    ·rcases(hD.out.sl rfl).2.2.2 with ⟨hb,hr⟩ | ⟨hb,hr⟩
     ·have e:dl=false:=by rw[HE.out,hb];rfl
      subst e;clear q33 q61
      as_aux_lemma=>
      have HR:=(show Hid _ from show (∃(OP' CL':zT) (parts':List Pt) (op':List Nat) (a':Nat) (L':List Rm),Value.string OP=.string OP'/\Value.string CL=.string CL'/\Value.int .i64 l2=zI a'/\Hid (PaRd w wc s.data.toList OP' CL' parts' op' a' L' u6 u7))/\a<l2 from by
       have y:=O.out;rw[hr]at y;have hn:=H.out.next (OP':=OP) (CL':=CL) (parts':=P2) (op':=op) (b:=l2) (y.trans rfl) HX.out.2.1 HX.out.1;exact⟨⟨_,_,_,_,l2,_,rfl,rfl,rfl,hn.1⟩,hn.2⟩)
      clear HX O hb hr Hp HU;go_wp2
      refine⟨HR.out.1,?_⟩;have:=HR.out.2;simp[intOf];omega
     ·have e:dl=true:=by rw[HE.out,hb];rfl
      subst e;clear q33 q61
      as_aux_lemma=>
      have HD:=zH (fun w=>q6c I w hIs);have hL:(qdc I.data.toList).kind=8/\((qdc I.data.toList).slip=0\/(qdc I.data.toList).slip=4):=by
       unfold qdc
       repeat' split
       all_goals first|exact⟨rfl,.inl rfl⟩|exact⟨rfl,.inr rfl⟩
      have y:=O.out;rw[hr]at y;have O:=zH y;clear y;clear hr hb Hp HU;generalize qdc I.data.toList=r at HD hL O;have K8:=zH hL.1;rcases hL.2 with h0|h4
      ·have HS0:=zH h0
       clear h0 hL;have HR:Hid (∀w5,zW wc w5->(∃(OP' CL':zT) (parts':List Pt) (op':List Nat) (a':Nat) (L':List Rm),Value.string ⟨r.op.toArray⟩=.string OP'/\Value.string ⟨r.cl.toArray⟩=.string CL'/\Value.int .i64 l2=zI a'/\Hid (PaRd w w5 s.data.toList OP' CL' parts' op' a' L' u6 u7))/\a<l2):=by
        intro w5 hb;have y:=O.out;unfold Ct.take at y;rw[if_neg (show ¬r.slip≠0 from fun h=>h HS0.out),if_neg (show ¬r.kind=7 by rw[K8.out];decide),if_pos K8.out]at y;have hn:=H.out.next (OP':=⟨r.op.toArray⟩) (CL':=⟨r.cl.toArray⟩) (parts':=P2) (op':=op) (b:=l2) (y.trans rfl) (HX.out.2.1.kept hb) HX.out.1;exact⟨⟨_,_,_,_,l2,_,rfl,rfl,rfl,hn.1⟩,hn.2⟩
       go_wp2_with (go_at_call 87;refine(HD.out _).mono ?_;rintro e w5 ⟨rfl,hb⟩;unfold zdd;rw[yV HS0.out];have HR5:=zH (HR.out w5 hb);clear hb)
       refine⟨HR5.out.1,?_⟩;have:=HR5.out.2;simp[intOf];omega
      ·have HV:Hid (qam s.data.toList=((4,o),[])):=by
        have y:=O.out;unfold Ct.take at y;rw[if_pos (show r.slip≠0 by rw[h4];decide),h4]at y;have:=H.out.eq;rw[qfo (y.trans rfl)]at this;exact this
       have hd:decide (r.slip=0)=false:=yx (by omega);have HDF:=zH hd;clear hd h4 hL O;go_wp2_with (go_at_call 87;refine(HD.out _).mono ?_;rintro e w5 ⟨rfl,hb⟩;unfold zdd;rw[HDF.out];have HY:=zH (HX.out.2.1.kept hb);have r0:=qaa HY.out.res 0 _ rfl;have r1:=qaa HY.out.res 1 _ rfl;have f0:=xH w5 w.heap.size 0 _ _ HY.out.res;have f1:=xH w5 w.heap.size 1 _ _ HY.out.res;clear hb)
       try rw[he]
       exact quv HY.out.res HY.out.below HV.out (by decide) rfl rfl rfl
    have e:dl=false:=HE.out;subst e;clear q33 q61 HE;obtain⟨Hq,He,Hx,hK,hx,ht⟩:=hD.out.op rfl;obtain rfl:o=ps:=(HPS.out rfl).symm;have X:=zH (Pl.qlr I[0] (I.data.toList.drop 1) Hq He (by rw[<-Hp.out];exact HIr.out));have Hi:=zH (readTg_low I[0] (I.data.toList.drop 1) Hq He);rw[<-Hp.out]at X Hi;rw[Hx,if_pos rfl,<-hK,<-hx,<-ht]at X;clear Hq He Hx hK hx ht hD HPS HU Hp;generalize qba I.data.toList=one at X Hi O;obtain⟨ao7,cap7,rfl⟩:=qaq HX.out.2.1.out;have hC:=HX.out.2.1.lt;have hM:=(ya.1 HX.out.2.2).1;have p0:=qaa HX.out.2.2 0 _ rfl;have p1:=qaa HX.out.2.2 1 _ rfl;have p2:=qaa HX.out.2.2 2 _ rfl;have p3:=qaa HX.out.2.2 3 _ rfl;have p4:=qaa HX.out.2.2 4 _ rfl;have p5:=qaa HX.out.2.2 5 _ rfl;by_cases hy:K=2
    ·obtain⟨ao8,cap8,rfl⟩:=qaq HX.out.2.1.sc
     have hop6:op.length<=6:=H.out.ok.six;have k2:(K==2)=true:=yF.2 hy;have y:=O.out;rw[take_open X.out.2.1 (by rw[X.out.1];exact hy),X.out.2.2.1 X.out.2.1]at y;have O:=zH y;clear y hy;by_cases h6:op.length=6
     ·as_aux_lemma=>
      have h6':((op.length:Int)==6)=true:=by rw[h6];rfl
      have HV:Hid (qam s.data.toList=((8,o),[])):=by
       have y:=O.out;rw[if_pos (show(⟨OP.data.toList,CL.data.toList,P2,op⟩:Ct).opened.length=6 from h6)]at y;have:=H.out.eq;rw[qfo (y.trans rfl)]at this;exact this
      clear h6 O;have U:=HX.out.2.1.res;have r0:=qaa U 0 _ rfl;have r1:=qaa U 1 _ rfl;have f0:=xH _ w.heap.size 0 _ _ U;have f1:=xH _ w.heap.size 1 _ _ U;clear U;go_wp2
      try rw[he]
      exact quv HX.out.2.1.res HX.out.2.1.below HV.out (by decide) rfl rfl rfl
     ·have h6':((op.length:Int)==6)=false:=by rw[yf];omega
      have H6n:=zH h6;clear h6;go_wp2_with (at_builtin;refine wpList_append_own _ rfl _ _ 36 rfl w.heap.size 3 i1 (zI 0) 1 8 underlying36 hj hj0 hj1 hj2 rfl (by decide) _ _ _ rfl (World.ownsRow.alloc HX.out.2.1.sc _) _ 1 1 [zI L2.length] rfl rfl (qcn _ _ _) (by intro u hu;simp at hu;subst hu;rfl) (by unfold maxLen;omega) (by omega) (by simp;omega) ?_)
      intro v8 w5 D Ha _;have HY:Hid (PaAt w w5 L2 (op++[L2.length]) (.slice ao7 L2.length cap7) v8/\w5.heap[PB]?=zK (qcb K o ⟨tx.toArray⟩ (.slice ao n cap) tn 0) 136):=by
       refine⟨HX.out.2.1.push (zB _) L2.length D Ha,?_⟩;refine(Ha.block PB (by rw[qlo];omega) (fun e=>?_)).trans ((xI _ _ hM).trans HX.out.2.2);obtain⟨cur,hc⟩:=qac HX.out.2.1.sc _ e.symm;exact qae HX.out.2.2 hc qf9 rfl
      have Hb:=zH HX.out.1;clear D Ha HX p0 p1 p2 p3 p4 p5 hC hM;have hC:=HY.out.1.lt;have p0:=qaa HY.out.2 0 _ rfl;have p1:=qaa HY.out.2 1 _ rfl;have p2:=qaa HY.out.2 2 _ rfl;have p3:=qaa HY.out.2 3 _ rfl;have p4:=qaa HY.out.2 4 _ rfl;have p5:=qaa HY.out.2 5 _ rfl;go_wp2_with (at_builtin;refine wpList_append_own _ rfl _ _ 97 rfl w.heap.size 136 i0 (.agg #[zI 0,zI 0,zS,zN,.bool false,zI 0]) 6 72 underlying97 hi Hr Hs Ht rfl (by decide) _ _ _ rfl (World.ownsRow.alloc HY.out.1.out _) _ 1 1 [zI K,zI o,.string ⟨tx.toArray⟩,.slice ao n cap,.bool tn,zI 0] rfl rfl (qcn _ _ _) (by intro u hu;simp at hu;rcases hu with rfl|rfl|rfl|rfl|rfl|rfl<;>rfl) (by unfold maxLen;omega) (by omega) (by simp;omega) ?_)
      intro v' w6 D Ha _
      as_aux_lemma=>
      have HR:=(show Hid _ from show (∃(OP' CL':zT) (parts':List Pt) (op':List Nat) (a':Nat) (L':List Rm),Value.string OP=.string OP'/\Value.string CL=.string CL'/\Value.int .i64 l2=zI a'/\Hid (PaRd w w6 s.data.toList OP' CL' parts' op' a' L' v' v8))/\a<l2 from by
       have hm:=HY.out.1.more (zB _) ⟨K,o,tx,.slice ao n cap,tn,0⟩ D Ha;have y:=O.out;rw[if_neg (show ¬(⟨OP.data.toList,CL.data.toList,P2,op⟩:Ct).opened.length=6 from H6n.out)]at y;have hn:=H.out.next (OP':=OP) (CL':=CL) (parts':=P2++[⟨one.kind,o,tx,0⟩]) (op':=op++[L2.length]) (b:=l2) (y.trans (by rw[Hb.out.len];rfl)) hm (Hb.out.snoc _ _ (q77 X.out.1 X.out.2.2.2));exact⟨⟨_,_,_,_,l2,_,rfl,rfl,rfl,hn.1⟩,hn.2⟩)
      clear D Ha HY O;go_wp2
      refine⟨HR.out.1,?_⟩;have:=HR.out.2;simp[intOf];omega
    by_cases HC:K=3
    ·obtain⟨ao8,cap8,rfl⟩:=qaq HX.out.2.1.sc
     have hop6:op.length<=6:=H.out.ok.six;have k2:(K==2)=false:=yf.2 hy;have k3:(K==3)=true:=yF.2 HC;have y:=O.out;rw[take_close X.out.2.1 (by rw[X.out.1];exact HC),X.out.2.2.1 X.out.2.1]at y;have O:=zH y;have HRC:=zH (fun(m:Nat)=>q40 (i:=P2.length) (o:=o) (m:=m) (tx:=tx) (ao:=ao) (n:=n) (cap:=cap) X.out.1 X.out.2.2.2 HC);have HK3:=zH HC;clear y hy HC X Hi;by_cases h0:op.length=0
     ·as_aux_lemma=>
      have h0':((op.length:Int)==0)=true:=by rw[h0];rfl
      have HV:Hid (qam s.data.toList=((5,o),[])):=by
       have y:=O.out;rw[show(⟨OP.data.toList,CL.data.toList,P2,op⟩:Ct).opened.getLast?=none by show op.getLast?=none;rw[List.length_eq_zero_iff.1 h0];rfl]at y;have:=H.out.eq;rw[qfo (y.trans rfl)]at this;exact this
      clear h0 O;have U:=HX.out.2.1.res;have r0:=qaa U 0 _ rfl;have r1:=qaa U 1 _ rfl;have f0:=xH _ w.heap.size 0 _ _ U;have f1:=xH _ w.heap.size 1 _ _ U;clear U;go_wp2
      try rw[he]
      exact quv HX.out.2.1.res HX.out.2.1.below HV.out (by decide) rfl rfl rfl
     have h0':((op.length:Int)==0)=false:=by rw[yf];omega
     have Hf:1<=op.length:=by omega
     obtain⟨m,Z⟩:∃m,op[op.length - 1]?=some m:=⟨_,yc (by omega)⟩;have hm:op.getLast?=some m:=by rw[List.getLast?_eq_getElem?];exact Z
     have y:=O.out;rw[show(⟨OP.data.toList,CL.data.toList,P2,op⟩:Ct).opened.getLast?=some m from hm]at y;simp only at y;have O:=zH y;have Hm:m<parts.length:=H.out.ok.wf.lt m (yl Z);have Hv:m<P2.length:=by
      rw[<-hV.out];unfold Ct.addText;split
      ·rw[yJ];exact yi Hm (Nat.le_add_right _ _)
      ·exact Hm
     have Y:m<L2.length:=by rw[HX.out.1.len];exact Hv
     obtain⟨g8,cap8',h8,_,_⟩:=qai HX.out.2.1.sc Hf;obtain⟨rfl,rfl⟩:ao8=some (zO g8 0)/\cap8=cap8':=by injection h8 with a _ c;exact⟨a,c⟩
     obtain⟨g7,cap7',h7,_,_⟩:=qai HX.out.2.1.out (by omega);obtain⟨rfl,rfl⟩:ao7=some (zO g7 0)/\cap7=cap7':=by injection h7 with a _ c;exact⟨a,c⟩
     have hG:wc.cell? (zO g8 (op.length - 1))=some (zI m):=by
      rw[World.ownsRow.cellAt HX.out.2.1.sc (op.length - 1) (by omega)];unfold qb0;rw[yz,Z];rfl
     obtain⟨r,hr⟩:∃r,L2[m]?=some r:=⟨_,yc Y⟩;obtain⟨p,hp⟩:∃p,P2[m]?=some p:=⟨_,yc Hv⟩;have hY:qmg P2 m=r.text:=by
      unfold qmg;rw[hp,(HX.out.1.each m r p hr hp).text]
     have Hy:m*6+5<L2.length*6:=yi (by omega:m*6+5<(m+1)*6) (xE 6 Y);have Hc:wc.cell? (zO g7 (m*6+2))=some (.string ⟨r.text.toArray⟩):=by
      rw[World.ownsRow.cellAt HX.out.2.1.out (m*6+2) (by omega)];exact qd5 _ m r hr 2 _ rfl
     have HG:(m:Int)<((L2.length:Nat):Int):=by omega
     have hw:(op.length:Int) > 0:=by omega
     have h1':(0:Int)<=(op.length:Int) - 1:=by omega
     have HQ6:=zH Hy;have hZ:=(show Hid _ from(show ∀p,P2[m]?=some p->p.kind=3\/p.kind=4 from by
      obtain⟨pa,q,pb,e1,e2,e3,_⟩:=H.out.ok.wf.last m hm;intro p hp;have hpm:parts[m]?=some q:=by rw[show parts=pa++q::pb from e1,e2];simp
      have hP:P2[m]?=some q:=by
       rw[<-hV.out];unfold Ct.addText;split
       ·show (parts++_)[m]?=_
        rw[yr Hm];exact hpm
       ·exact hpm
      rw[hP]at hp;injection hp with hp;rw[<-hp];exact e3))
     have HMOP:=zH Z;clear Hy Z hm Hm;by_cases hq:r.text=tx
     ·have y:=O.out
      rw[if_neg (show ¬qmg P2 m≠tx by rw[hY];exact fun h=>h hq),show(⟨OP.data.toList,CL.data.toList,P2,op⟩:Ct).parts.length=L2.length from HX.out.1.len.symm]at y;have O:=zH y;have H1:(r.text==tx)=true:=yF.2 hq;have Hb:=zH (HX.out.1.mate m L2.length hZ.out);have HM2:=zH Y;have HKD:Hid (r.kd=2):=by
       show _=_;rw[(HX.out.1.each m r p hr hp).kd];rcases hZ.out p hp with e|e<;>rw[e]<;>rfl
      have HRR:=zH hr;have HSC:=(show Hid (op[op.length - 1]?=some m)from HMOP.out);clear y hq hY hp Hv Y hZ;go_upto_region 51 with fail
      go_cut [193]from 29 to 219 (fun s wx=>s=.bool false/\Hid (PaAt w wx L2 op (zF g7 L2.length cap7) (zF g8 op.length cap8)/\wx.heap[PB]?=zK (qcb K o ⟨tx.toArray⟩ (.slice ao n cap) tn 0) 136))
      case first=>
       as_aux_lemma=>
       generalize r.text=rt at Hc H1;go_region
       all_goals
        go_wp2
        go_meet
        exact⟨rfl,HX.out.2.1.drew,HX.out.2.2⟩
      case rest=>
      obtain⟨rfl,HZ⟩:=hcut;clear hG Hc H1 p0 p1 p2 p3 p4 p5 hr;have hG:wc.cell? (zO g8 (op.length - 1))=some (zI m):=by
       rw[World.ownsRow.cellAt HZ.out.1.sc (op.length - 1) (by omega)];unfold qb0;rw[yz,HSC.out];rfl
      have hfz:wc.frozen? (zO g7 (m*6+5))=false:=World.ownsRow.frozenAt HZ.out.1.out _;obtain⟨r,hr⟩:∃r,L2[m]?=some r:=⟨_,yc HM2.out⟩;have Hc:wc.cell? (zO g7 (m*6+5))=some (zI r.en):=by
       rw[World.ownsRow.cellAt HZ.out.1.out (m*6+5) HQ6.out];exact qd5 _ m r hr 5 _ rfl
      have hsub:(L2.length:Int) - (m:Int)=((L2.length - m:Nat):Int):=by have:=HM2.out;omega
      have HX2:=zH HX.out.1.len;clear hr HX;go_upto_region 53 with fail
      go_cut []from 29 to 219 (fun wx=>Hid (PaAt w wx (qlp L2 m (L2.length - m)) op (zF g7 L2.length cap7) (zF g8 op.length cap8)/\wx.heap[PB]?=zK (qcb K o ⟨tx.toArray⟩ (.slice ao n cap) tn 0) 136))
      case first=>
       as_aux_lemma=>
       go_region
       all_goals
        go_wp2
        go_meet
        exact⟨(HZ.out.1.mated m (L2.length - m) HM2.out).drew,(xK _ _ _ _ (HZ.out.1.apart HZ.out.2 HRR.out HKD.out HK3.out)).trans HZ.out.2⟩
      case rest=>
      have h3:=q70 L2 m (L2.length - m);have Hj:=zH hcut.out;have HLN:=zH HX2.out;clear hcut hG hfz Hc hsub HZ HX2;generalize qlp L2 m (L2.length - m)=L3 at Hj Hb h3;have hN3:L3.length<=1000001:=by omega
      have hcap8:=qxa Hj.out.1.sc;have hc1:(op.length:Int) - 1<=(cap8:Int):=by omega
      have hC:=Hj.out.1.lt;have p0:=qaa Hj.out.2 0 _ rfl;have p1:=qaa Hj.out.2 1 _ rfl;have p2:=qaa Hj.out.2 2 _ rfl;have p3:=qaa Hj.out.2 3 _ rfl;have p4:=qaa Hj.out.2 4 _ rfl;have p5:=qaa Hj.out.2 5 _ rfl;have HO:=zH (Hj.out.1.pop (Nat.sub_le op.length 1));rw[<-h3]at HO |-;go_wp2_with (at_builtin;refine wpList_append_own _ rfl _ _ 97 rfl w.heap.size 136 i0 (.agg #[zI 0,zI 0,zS,zN,.bool false,zI 0]) 6 72 underlying97 hi Hr Hs Ht rfl (by decide) _ _ _ rfl (World.ownsRow.alloc HO.out.out _) _ 1 1 [zI K,zI o,.string ⟨tx.toArray⟩,.slice ao n cap,.bool tn,zI 0] rfl rfl (qcn _ _ _) (by intro u hu;simp at hu;rcases hu with rfl|rfl|rfl|rfl|rfl|rfl<;>rfl) (by unfold maxLen;omega) (by omega) (by simp;omega) ?_)
      intro v' w5 D Ha _;rw[<-h3]at D
      as_aux_lemma=>
      have HR:=(show Hid _ from show (∃(OP' CL':zT) (parts':List Pt) (op':List Nat) (a':Nat) (L':List Rm),Value.string OP=.string OP'/\Value.string CL=.string CL'/\Value.int .i64 l2=zI a'/\Hid (PaRd w w5 s.data.toList OP' CL' parts' op' a' L' v' (zF g8 (op.length - 1) cap8)))/\a<l2 from by
       have hm:=HO.out.more (zB _) ⟨K,o,tx,.slice ao n cap,tn,0⟩ D Ha;have y:=O.out;have hn:=H.out.next (OP':=OP) (CL':=CL) (parts':=qbd P2 m L2.length++[⟨5,o,tx,m⟩]) (op':=op.take (op.length - 1)) (b:=l2) (y.trans (by rw[<-List.dropLast_eq_take];rfl)) hm (Hb.out.snoc _ _ (by
        have:=HRC.out m;rw[qit];exact⟨this.kd,this.pos,this.text,this.tn,rfl,_,_,_,rfl⟩))
       exact⟨⟨_,_,_,_,l2,_,rfl,rfl,rfl,hn.1⟩,hn.2⟩)
      clear D Ha Hj HO O;go_wp2
      refine⟨HR.out.1,?_⟩;have:=HR.out.2;simp[intOf];omega
     ·as_aux_lemma=>
      have HV:Hid (qam s.data.toList=((6,o),[])):=by
       have y:=O.out;rw[if_pos (show qmg P2 m≠tx by rw[hY];exact hq)]at y;have:=H.out.eq;rw[qfo (y.trans rfl)]at this;exact this
      have H1:(r.text==tx)=false:=yf.2 hq;clear O hq hY hr hp Hv Y hZ;have U:=HX.out.2.1.res;have r0:=qaa U 0 _ rfl;have r1:=qaa U 1 _ rfl;have f0:=xH _ w.heap.size 0 _ _ U;have f1:=xH _ w.heap.size 1 _ _ U;clear U;generalize r.text=rt at Hc H1;go_wp2
      go_region
      all_goals
       go_wp2
       try rw[he]
       exact quv (wr:=wc.drew) HX.out.2.1.res HX.out.2.1.below.drew HV.out (by decide) rfl rfl rfl
    have k2:(K==2)=false:=yf.2 hy;have k3:(K==3)=false:=yf.2 HC;go_wp2_with (at_builtin;refine wpList_append_own _ rfl _ _ 97 rfl w.heap.size 136 i0 (.agg #[zI 0,zI 0,zS,zN,.bool false,zI 0]) 6 72 underlying97 hi Hr Hs Ht rfl (by decide) _ _ _ rfl (World.ownsRow.alloc HX.out.2.1.out _) _ 1 1 [zI K,zI o,.string ⟨tx.toArray⟩,.slice ao n cap,.bool tn,zI 0] rfl rfl (qcn _ _ _) (by intro u hu;simp at hu;rcases hu with rfl|rfl|rfl|rfl|rfl|rfl<;>rfl) (by unfold maxLen;omega) (by omega) (by simp;omega) ?_)
    intro v' w5 D Ha _
    as_aux_lemma=>
    have HR:=(show Hid _ from show (∃(OP' CL':zT) (parts':List Pt) (op':List Nat) (a':Nat) (L':List Rm),Value.string OP=.string OP'/\Value.string CL=.string CL'/\Value.int .i64 l2=zI a'/\Hid (PaRd w w5 s.data.toList OP' CL' parts' op' a' L' v' u7))/\a<l2 from by
     have hm:=HX.out.2.1.more (zB _) ⟨K,o,tx,.slice ao n cap,tn,0⟩ D Ha;have y:=O.out;rw[take_plain X.out.2.1 Hi.out.1 Hi.out.2 (by rw[X.out.1];exact hy) (by rw[X.out.1];exact HC),X.out.2.2.1 X.out.2.1]at y;have hn:=H.out.next (OP':=OP) (CL':=CL) (parts':=P2++[⟨one.kind,o,tx,0⟩]) (op':=op) (b:=l2) (y.trans rfl) hm (HX.out.1.snoc _ _ (q4z X.out.1 X.out.2.2.2 hy));exact⟨⟨_,_,_,_,l2,_,rfl,rfl,rfl,hn.1⟩,hn.2⟩)
    clear D Ha HX O;go_wp2
    refine⟨HR.out.1,?_⟩;have:=HR.out.2;simp[intOf];omega
end Go.Proofs.YtfkhljmiehdgmaaGreatDoor
