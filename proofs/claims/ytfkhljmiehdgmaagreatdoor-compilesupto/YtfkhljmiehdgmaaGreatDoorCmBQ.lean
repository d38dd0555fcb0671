/-
  Steps of the proof.
-/
import Derived.Test.YtfkhljmiehdgmaaGreatDoorCmBP
set_option maxRecDepth 100000
set_option maxHeartbeats 40000000
namespace Go.Proofs.YtfkhljmiehdgmaaGreatDoor
open Go.RowKit
variable{K:Sk}{W:List Pl.Vt}{vW:Value}
theorem Enm.out{w0 wr:World}{p':Pl.Sp}{ve':Value}{E':List Pl.Et}(h:Enm K w0 wr W vW p' ve' E')(hB:K.B<=w0.heap.size)(v0 v1 v2 v3 v4 v5:Value):K.at_ (set6 wr (w0.heap.size+1) v0 v1 v2 v3 v4 v5) ve' E'/\Ck K.B w0 (set6 wr (w0.heap.size+1) v0 v1 v2 v3 v4 v5):=by
 have Ha:∀(k:Nat) (cs:Array Value) (t:TypeId) (fz:Nat×Nat),wr.heap[k]?=some (.cells cs t fz)->t≠94->(set6 wr (w0.heap.size+1) v0 v1 v2 v3 v4 v5).heap[k]?=wr.heap[k]?:=fun k cs t fz hk ht=>qci (qae hk h.res ht) _ _ _ _ _ _;have ha:∀(e:TypeId) (sz n:Nat) (v:Value) (xs:List Value),wr.ownsRow K.B e sz v n xs->e≠94->(set6 wr (w0.heap.size+1) v0 v1 v2 v3 v4 v5).ownsRow K.B e sz v n xs:=fun e sz n v xs hv he=>qac hv fun k hk=>by
  obtain⟨cur,hc⟩:=qad hv k hk;exact Ha _ _ _ _ hc he
 exact⟨⟨⟨(Ha _ _ _ _ h.at_.tp.blk (by decide)).trans h.at_.tp.blk,h.at_.tp.le,ha _ _ _ _ _ h.at_.tp.parts (by decide),fun i s hs=>⟨ha _ _ _ _ _ (h.at_.tp.row i s hs).1 (by decide),(h.at_.tp.row i s hs).2⟩⟩,ha _ _ _ _ _ h.at_.ends (by decide)⟩,qbx h.ck.below (by omega) _ _ _ _ _ _,fun k cs t fz hk h1 h2=>(qci (by have:=(Array.getElem?_eq_some_iff.1 hk).1;omega) _ _ _ _ _ _).trans (h.ck.keep k cs t fz hk h1 h2)⟩
theorem qs4{R:List Pl.Vt}{w w5:World}{E:List Pl.Et}{n:Nat}{x:Pl.Sx}{r:Nat}{p5:Pl.Sp}{ve5:Value}{E5:List Pl.Et}{r5:Nat}{ok:Bool}{a:Act}(hB:K.B<=w.heap.size)(hm:Enm K w w5 W vW p5 ve5 E5)(ha:Pl.EInv K.bd R r5 E5 W)(Hb:Pl.SpOk r5 p5)(Ha:E.length<=E5.length)(hc:r<=r5)(Hc:r5<=r+4000000*(E5.length - E.length)+4000000)
  (hb:ok=true->∃y,Pl.Done K.bd n x y/\Pl.ParX y p5/\Pl.Cm y) (he:ok=false->∀y,¬Pl.Done K.bd n x y) (h8:a.tmps.getD 8 undef=.pointer (some ⟨w.heap.size+1,0,none⟩)) (h9:a.tmps.getD 9 undef=.bool ok) (He:a.defers=[]) :
  bodyPost Tryz.prog Tryz.f89 (fun e w'=>EdO K R w E W n x r 4000000 e w') .ret a (set6 w5 (w.heap.size+1) (.int .i64 p5.mode) (.string ⟨p5.tag.toArray⟩) (.string ⟨p5.attr.toArray⟩) (.string ⟨p5.inside.toArray⟩) (.string ⟨p5.run.toArray⟩) (.int .i64 p5.far)):=by
 have ho:=hm.out hB (.int .i64 p5.mode) (.string ⟨p5.tag.toArray⟩) (.string ⟨p5.attr.toArray⟩) (.string ⟨p5.inside.toArray⟩) (.string ⟨p5.run.toArray⟩) (.int .i64 p5.far);refine qbm Tryz.results89 (w.heap.size+1) _ Tryz.underlying94 rfl (by kernel_rfl) h8 ⟨_,_,hm.res,rfl⟩ He _ _ _ _ _ _ _ h9 ?_;exact⟨p5,ok,ve5,E5,r5,rfl,ho.1,ha,Hb,Ha,hc,Hc,hb,he,ho.2⟩
theorem q4q(K:Sk)(R:List Pl.Vt)(hK:SkOk K)(k:Nat)(HE:EndC K R k):za3 K R k:=by
 intro w ve vW E W n x p r hp Ht Hl Hu Hm hC hn Hn hW hB hk hr;obtain⟨s,hs⟩:∃s,K.S[n+1]?=some s:=⟨_,List.getElem?_eq_getElem (by rw[hK.len];omega)⟩;have hP:Pl.qab K.S (n+1)=s.parts:=by unfold Pl.qab;rw[hs]
 obtain⟨ao,cap,hv⟩:=qas (hp.tp.row (n+1) s hs).1;rw[hv];obtain⟨Q,Hp⟩:∃Q:Ending->World->Prop,Q=fun e w'=>EdO K R w E W n x r 4000000 e w':=⟨_,rfl⟩;rw[<-Hp];have Hg:=(hp.tp.row (n+1) s hs).2.len;have H0:Hid (Enm K w ((w.alloc (.cells (qag p) 94)).alloc (.cells #[.int .i64 0,.string ⟨#[]⟩,.string ⟨#[]⟩,.string ⟨#[]⟩,.string ⟨#[]⟩,.int .i64 0] 94)) W vW p ve E):=by
  have hb:=((Below.refl w.heap.size w).alloc (Nat.le_refl _) (.cells (qag p) 94)).alloc (by simp) (.cells #[.int .i64 0,.string ⟨#[]⟩,.string ⟨#[]⟩,.string ⟨#[]⟩,.string ⟨#[]⟩,.int .i64 0] 94);exact⟨(heap_alloc_old _ _ (by simp)).trans (heap_alloc_new _ _),qal _ _ _ (by simp),hp.kept hb,qac Ht fun q hq=>hb.block q (Ht.lt q hq).2,Ck.of_below hb hB⟩
 have HC:Hid (Enp K R E W n x r s.parts 0 p x E r []):=⟨Hl,Hu,Hm,hC,Pl.qrv _ _,by unfold Sk.bd;rw[hP];rfl,Nat.zero_le _,Nat.le_refl _,Nat.le_refl _,by omega⟩;unfold qau;unfold qag at H0 |-;go_enter Tryz.func89,Tryz.ntmps89
 go_wp2_with fail
 generalize World.alloc _ _=w1 at H0 |-;have hD:=hd Hg;have ho:=hd hK;have HS:=hd hs;have HV:=hd hv;have Hf:=hd hB;have HX:=(show Hid (K.bd n=_/\n<K.N.length/\Pl.InS K.bd R (n,x)/\Pl.Cm x/\(∀u∈W,u=(n,x)\/Pl.Need K.bd u (n,x)))from⟨(show K.bd n=Pl.its K.nm s.parts by unfold Sk.bd;rw[hP]),hn,Hn,Hu,hW⟩);have Hv:=hd (And.intro hk hr);have HL:s.parts.length<=2000:=(hK.ok.parts (n+1) s hs).1;rw[Hg];clear hp Ht Hl Hu Hm hC hn Hn hW hB hk hr hP hs hv Hg hK;go_loopw [10] (fun v10 wr=>∃(i:Nat) (p':Pl.Sp) (x':Pl.Sx) (ve':Value) (E':List Pl.Et) (r':Nat) (pre:List Pl.It),v10=.int .i64 i/\Hid (Enm K w wr W vW p' ve' E')/\Hid (Enp K R E W n x r s.parts i p' x' E' r' pre)) (fun v10 _=>s.parts.length - (intOf v10).toNat)
 case atStart=>exact⟨0,p,x,ve,E,r,[],rfl,H0,HC⟩
 case round=>
  clear H0 HC;obtain⟨i,p',x',ve',E',r',pre,rfl,HM,HP⟩:=hrel;have hM:=HP.out.le;have q0:=qaa HM.out.spot 0 _ rfl;have q1:=qaa HM.out.spot 1 _ rfl;have q2:=qaa HM.out.spot 2 _ rfl;have q3:=qaa HM.out.spot 3 _ rfl;have q4:=qaa HM.out.spot 4 _ rfl;have q5:=qaa HM.out.spot 5 _ rfl;have hN:=hd HM.out.lt;by_cases Hq:i<s.parts.length
  rotate_left
  ·have Hw:¬(i:Int)<(s.parts.length:Int):=by omega
   have r0:=qaa HM.out.res 0 _ rfl;have r1:=qaa HM.out.res 1 _ rfl;have r2:=qaa HM.out.res 2 _ rfl;have r3:=qaa HM.out.res 3 _ rfl;have r4:=qaa HM.out.res 4 _ rfl;have r5:=qaa HM.out.res 5 _ rfl;have f0:=frozen_of_row _ _ 0 _ _ HM.out.res;have f1:=frozen_of_row _ _ 1 _ _ HM.out.res;have f2:=frozen_of_row _ _ 2 _ _ HM.out.res;have f3:=frozen_of_row _ _ 3 _ _ HM.out.res;have f4:=frozen_of_row _ _ 4 _ _ HM.out.res;have f5:=frozen_of_row _ _ 5 _ _ HM.out.res;have hO:Hid (Pl.Done K.bd n x x'):=by
    have hv:=HP.out.via;have hi:=HP.out.its;rw[Pl.qik (by omega),List.append_nil]at hi;rw[<-hi]at hv;exact Pl.qrw hv
   go_wp2_with fail
   try rw[Hp]
   refine qs4 (ok:=true) Hf.out HM.out HP.out.inv HP.out.sp HP.out.len HP.out.up (by have:=HP.out.few;omega) (fun _=>⟨x',hO.out,HP.out.par,HP.out.cm⟩) (fun h=>nomatch h) ?_ ?_ ?_
   all_goals rfl
  obtain⟨g7,cap7,h7,_,_⟩:=qaj (HM.out.at_.tp.row (n+1) s HS.out).1 (by rw[hD.out];omega);rw[HV.out]at h7;obtain⟨rfl,rfl⟩:ao=some ⟨g7,0,none⟩/\cap=cap7:=by injection h7 with a _ c;exact⟨a,c⟩
  clear h7;obtain⟨pt,hx⟩:∃pt,s.parts[i]?=some pt:=⟨_,List.getElem?_eq_getElem Hq⟩;obtain⟨rm,Hr⟩:∃rm,(K.RL (n+1))[i]?=some rm:=⟨_,List.getElem?_eq_getElem (by rw[hD.out];exact Hq)⟩;have Hs:=(HM.out.at_.tp.row (n+1) s HS.out).2.each i rm pt Hr hx;have Hi:=(HM.out.at_.tp.row (n+1) s HS.out).1;rw[HV.out]at Hi;have hc:=fun j v (hv:(qdb rm)[j]?=some v)=>(Hi.cellAt (i*6+j) (by have:=qc6 _ i rm Hr j v hv;have:=(List.getElem?_eq_some_iff.1 this).1;rw[qkm]at this;exact this)).trans (qc6 _ i rm Hr j v hv);have c0:wr.cell? ⟨g7,i*6+0,none⟩=some (.int .i64 (Pl.qbg pt.kind)):=(hc 0 _ rfl).trans (by rw[Hs.kd]);have hE:Hid (wr.cell? ⟨g7,i*6+2,none⟩=some (.string ⟨pt.text.toArray⟩)):=(hc 2 _ rfl).trans (by rw[Hs.text]);have HO:Hid (wr.cell? ⟨g7,i*6+5,none⟩=some (.int .i64 ((if pt.kind=3\/pt.kind=4 then pt.mate - i else 0:Nat)))):=(hc 5 _ rfl).trans (by rw[Hs.en]);have hg:=hd hx;clear hc Hi Hs Hr hx;have Hw:(i:Int)<(s.parts.length:Int):=by omega
  simp only[Nat.add_zero]at c0;go_upto_block 1 with fail
  go_cut [10,11,12,13,14,15]from 16 to 87 (fun v10 v11 v12 v13 v14 v15 wx=>∃(j:Nat) (p'':Pl.Sp) (x'':Pl.Sx) (ve'':Value) (E'':List Pl.Et) (r'':Nat) (pre'':List Pl.It),i<=j/\v10=.int .i64 j/\Hid (Enm K w wx W vW p'' ve'' E'')/\Hid (Enp K R E W n x r s.parts (j+1) p'' x'' E'' r'' pre''))
  case first=>
   have hf:=HP.out.few;have hu:=HP.out.up;have hl:=HP.out.len;have he:=HP.out.inv.few;have hQ:=Hv.out.2;have hF:r'<=1900000000000000000:=by omega
   have Hx:=hd hF;clear hf hu hl he hQ hF;have hy:=(show Hid (K.B<=wr.heap.size)from Nat.le_trans Hf.out (by have:=hN.out;omega));have hq:pt.text.length<=2000/\pt.mate<=2000:=by have:=(ho.out.ok.parts (n+1) s HS.out).2 pt (List.mem_of_getElem? hg.out);exact⟨this.1,this.2.2⟩
   have Hy:=hd hq;clear hq;have Hk:=Pl.qk5 (ho.out.ok.wf (n+1) s HS.out) pt (List.mem_of_getElem? hg.out);by_cases k1:pt.kind=1
   ·rw[show Pl.qbg pt.kind=0 by rw[k1];rfl]at c0
    have hT:=fun W'=>qol p' r' ⟨pt.text.toArray⟩ W' HP.out.sp (by have:=Hx.out;have:=Hy.out.1;rw[qbz];omega);unfold qau qag at hT;have HT:=hd hT;have HN:=hd (HP.out.text hg.out k1 Hy.out.1);have c2:=hE.out;clear hT k1 Hk;go_upto_region 6 with fail
    go_region_with (go_at_call 54;refine(HT.out _).mono ?_;rintro e w5 ⟨rfl,hb⟩;have ha:=hd (HM.out.kept ⟨hb.os,hb.tape,hb.output,hb.size,hb.block⟩ hy.out);have u0:=qaa ha.out.spot 0 _ rfl;have u1:=qaa ha.out.spot 1 _ rfl;have u2:=qaa ha.out.spot 2 _ rfl;have u3:=qaa ha.out.spot 3 _ rfl;have u4:=qaa ha.out.spot 4 _ rfl;have u5:=qaa ha.out.spot 5 _ rfl;have f0:=frozen_of_row _ _ 0 _ _ ha.out.spot;have f1:=frozen_of_row _ _ 1 _ _ ha.out.spot;have f2:=frozen_of_row _ _ 2 _ _ ha.out.spot;have f3:=frozen_of_row _ _ 3 _ _ ha.out.spot;have f4:=frozen_of_row _ _ 4 _ _ ha.out.spot;have f5:=frozen_of_row _ _ 5 _ _ ha.out.spot;clear hb;dsimp only)
    all_goals
     go_wp2_with fail
     go_meet
     exact⟨i,_,_,_,_,_,_,Nat.le_refl _,rfl,ha.out.set Hf.out (Pl.qda p' pt.text),HN.out⟩
   by_cases k2:pt.kind=2
   ·rw[show Pl.qbg pt.kind=1 by rw[k2];rfl]at c0
    have hT:=fun W'=>qpc p' W' (by have:=HP.out.sp.tag;omega) (by have:=HP.out.sp.attr;omega) (by have:=HP.out.sp.inside;omega) (by have:=HP.out.sp.run;have:=Hx.out;omega);unfold qau qag at hT;have HT:=hd hT;have HN:=hd (HP.out.hole hg.out k2);clear hT k1 k2 Hk;generalize p'.view.hole=vh at HT;generalize Pl.Sp.behindHole p'=ph at HT HN;go_wp2_with (go_at_call 55;refine(HT.out _).mono ?_;rintro e w5 ⟨rfl,hb⟩;have ha:=hd (HM.out.kept ⟨hb.os,hb.tape,hb.output,hb.size,hb.block⟩ hy.out);have u0:=qaa ha.out.spot 0 _ rfl;have u1:=qaa ha.out.spot 1 _ rfl;have u2:=qaa ha.out.spot 2 _ rfl;have u3:=qaa ha.out.spot 3 _ rfl;have u4:=qaa ha.out.spot 4 _ rfl;have u5:=qaa ha.out.spot 5 _ rfl;have f0:=frozen_of_row _ _ 0 _ _ ha.out.spot;have f1:=frozen_of_row _ _ 1 _ _ ha.out.spot;have f2:=frozen_of_row _ _ 2 _ _ ha.out.spot;have f3:=frozen_of_row _ _ 3 _ _ ha.out.spot;have f4:=frozen_of_row _ _ 4 _ _ ha.out.spot;have f5:=frozen_of_row _ _ 5 _ _ ha.out.spot;clear hb;dsimp only)
    go_meet
    exact⟨i,_,_,_,_,_,_,Nat.le_refl _,rfl,ha.out.set Hf.out ph,HN.out⟩
   by_cases k34:pt.kind=3\/pt.kind=4
   ·rw[show Pl.qbg pt.kind=2 by rcases k34 with h | h<;>rw[h]<;>rfl]at c0
    have hm:=qhj (ho.out.ok.wf (n+1) s HS.out) i pt hg.out k34;have HQ:=HO.out;rw[if_pos k34]at HQ;have HN:=hd (HP.out.over (j:=pt.mate) (by omega) (by omega) (Pl.qks hg.out k34 (by omega)));have hR:(i:Int)+((pt.mate - i:Nat):Int)=(pt.mate:Int):=by omega
    have HR:=(show Hid (i<=pt.mate) by show _<=_;omega);have HZ:pt.mate<=2000:=Hy.out.2;clear hm k1 k2 k34 Hk;go_wp2_with fail
    go_meet
    exact⟨pt.mate,_,_,_,_,_,_,HR.out,by first|rfl|(congr 1;unfold wrap64;omega),HM.out,HN.out⟩
   by_cases k5:pt.kind=5
   ·rw[show Pl.qbg pt.kind=3 by rw[k5];rfl]at c0
    have HN:=hd (HP.out.over (j:=i) (Nat.le_refl _) Hq (Pl.qjx hg.out (.inl k5)));clear k1 k2 k34 k5 Hk;go_wp2_with fail
    go_meet
    exact⟨i,_,_,_,_,_,_,Nat.le_refl _,rfl,HM.out,HN.out⟩
   have k6:pt.kind=6:=by omega
   rw[show Pl.qbg pt.kind=4 by rw[k6];rfl]at c0;have c2:=hE.out;have HF:=hd (qsd ⟨pt.text.toArray⟩ HM.out.at_.tp (by have:=ho.out.six;omega));cases hj:Pl.qb6 K.nm pt.text
   ·have HN:=hd (HP.out.over (j:=i) (Nat.le_refl _) Hq (Pl.qjx hg.out (.inr ⟨k6,hj⟩)))
    have ht:=(show Hid (Pl.qb6 (K.N.map fun y=>y.data.toList) (⟨pt.text.toArray⟩:ByteArray).data.toList=none)from hj);have hU:Hid (Calls Tryz.prog 56 #[.pointer (some ⟨K.g,0,none⟩),.string ⟨pt.text.toArray⟩] wr fun e w'=>e=.returned (.int .i64 (-1))/\w'=wr):=by
     refine Calls.mono HF.out ?_;rintro e w' ⟨⟨rr,rfl,hz⟩,hw⟩;rcases hz with⟨rfl,_⟩|⟨k,_,h⟩
     ·exact⟨rfl,hw⟩
     ·rw[ht.out]at h;cases h
    clear k1 k2 k34 k5 k6 Hk hj;go_wp2_with (go_at_call 56;refine Calls.mono hU.out ?_;rintro e w5 ⟨rfl,rfl⟩;dsimp only)
    go_meet
    exact⟨i,_,_,_,_,_,_,Nat.le_refl _,rfl,HM.out,HN.out⟩
   next m=>
   have ht:=(show Hid (Pl.qb6 (K.N.map fun y=>y.data.toList) (⟨pt.text.toArray⟩:ByteArray).data.toList=some m)from hj);have Hj:=hd (HP.out.named hg.out k6 hj HX.out.1 HL ho.out.six HX.out.2.2.1 HX.out.2.2.2.1);have HU:=(show Hid (∀ {p5:Pl.Sp} {y:Pl.Sx} {E5:List Pl.Et} {r5:Nat} (_:Pl.Done K.bd m x' y) (_:Pl.ParX y p5) (_:Pl.Cm y) (_:Pl.EInv K.bd R r5 E5 W) (_:Pl.SpOk r5 p5) (_:E'.length<=E5.length) (_:r'<=r5) (_:r5<=r'+4000000*(E5.length - E'.length)+0),Enp K R E W n x r s.parts (i+1) p5 y E5 r5 (pre++[.ca m]))from fun a b c d e f g h=>HP.out.call hg.out k6 hj a b c d e f g h);clear k1 k2 k34 k5 k6 Hk hj;have hS:=fun W'=>qit p' W' (by have:=HP.out.sp.tag;omega) (by have:=HP.out.sp.attr;omega) (by have:=HP.out.sp.inside;omega) (by have:=HP.out.sp.run;have:=Hx.out;omega);rw[Pl.qc8 _ _ HP.out.cm.fit.fit.ok HP.out.par]at hS;unfold qau qag qep qcv at hS;have hV:=hd hS;clear hS;have h0:¬(m:Int)<0:=by omega
   have HW:Hid (Calls Tryz.prog 56 #[.pointer (some ⟨K.g,0,none⟩),.string ⟨pt.text.toArray⟩] wr fun e w'=>e=.returned (.int .i64 m)/\w'=wr):=by
    refine Calls.mono HF.out ?_;rintro e w' ⟨⟨rr,rfl,hz⟩,hw⟩;rcases hz with⟨rfl,h⟩|⟨k,rfl,h⟩
    ·rw[ht.out]at h;cases h
    ·rw[ht.out]at h
     injection h with h;exact⟨by rw[h],hw⟩
   go_upto_region 14 with(go_at_call 56;refine Calls.mono HW.out ?_;rintro e w5 ⟨rfl,rfl⟩;dsimp only)
   go_upto_region 15 with(go_at_call 41;refine(hV.out _).mono ?_;rintro e w5 ⟨rfl,hb⟩;have ha:=hd (HM.out.kept ⟨hb.os,hb.tape,hb.output,hb.size,hb.block⟩ hy.out);clear hb;dsimp only)
   have Ho:=hd (ha.out.kept (w':=w5.alloc (.cells #[.int .i64 m,.int .i64 x'.view.mode,.int .i64 x'.view.elem,.int .i64 x'.view.attr,.int .i64 x'.view.ends,.int .i64 x'.view.esc,.int .i64 x'.view.pct,.int .i64 x'.view.link,.string ⟨x'.view.name.toArray⟩,.bool x'.view.ref] 143)) (ba _) (Nat.le_trans Hf.out (by have:=ha.out.lt;omega)));have Hb:=heap_alloc_new w5 (.cells #[.int .i64 m,.int .i64 x'.view.mode,.int .i64 x'.view.elem,.int .i64 x'.view.attr,.int .i64 x'.view.ends,.int .i64 x'.view.esc,.int .i64 x'.view.pct,.int .i64 x'.view.link,.string ⟨x'.view.name.toArray⟩,.bool x'.view.ref] 143);generalize World.alloc w5 _=w6 at Ho Hb |-;generalize w5.heap.size=VB at Hb |-;have v0:=qaa Hb 0 _ rfl;have v1:=qaa Hb 1 _ rfl;have v2:=qaa Hb 2 _ rfl;have v3:=qaa Hb 3 _ rfl;have v4:=qaa Hb 4 _ rfl;have v5:=qaa Hb 5 _ rfl;have v6:=qaa Hb 6 _ rfl;have v7:=qaa Hb 7 _ rfl;have v8:=qaa Hb 8 _ rfl;have v9:=qaa Hb 9 _ rfl;clear Hb ha q0 q1 q2 q3 q4 q5 c0 c2;have Hz:=fun(W':World) (h:W'.ownsRow K.B 143 10 vW W.length (qch W))=>qkc K.B vW W m x' W' (by have:=HP.out.inv.few;omega) h (fun u hu=>(HP.out.inv.wins u hu).2) HP.out.cm;unfold qfc at Hz;have hG:=hd Hz;clear Hz;go_upto_if 74 with(go_at_call 57;refine Calls.mono (hG.out _ Ho.out.wi) ?_;rintro e w7 ⟨⟨b,rfl,hb⟩,HG⟩;have hI:=hd hb;have He:=hd (Ho.out.kept HG (Nat.le_trans Hf.out (by have:=Ho.out.lt;omega)));clear hb HG;dsimp only)
   have q0:=qaa He.out.spot 0 _ rfl;have q1:=qaa He.out.spot 1 _ rfl;have q2:=qaa He.out.spot 2 _ rfl;have q3:=qaa He.out.spot 3 _ rfl;have q4:=qaa He.out.spot 4 _ rfl;have q5:=qaa He.out.spot 5 _ rfl;clear v0 v1 v2 v3 v4 v5 v6 v7 v8 v9 Ho hG;cases b
   rotate_left
   ·have hA:Hid (∀y,¬Pl.Done K.bd n x y):=by
     have hX:=hI.out.1 rfl;rcases HX.out.2.2.2.2 _ hX with e|e
     ·have:=Hj.out.2.2
      rw[e]at this;exact Pl.Need.self this
     ·exact Pl.Need.self (Hj.out.2.2.trans e)
    have Ha:=He;have rs0:=qaa Ha.out.res 0 _ rfl;have rs1:=qaa Ha.out.res 1 _ rfl;have rs2:=qaa Ha.out.res 2 _ rfl;have rs3:=qaa Ha.out.res 3 _ rfl;have rs4:=qaa Ha.out.res 4 _ rfl;have rs5:=qaa Ha.out.res 5 _ rfl;have z0:=frozen_of_row _ _ 0 _ _ Ha.out.res;have z1:=frozen_of_row _ _ 1 _ _ Ha.out.res;have z2:=frozen_of_row _ _ 2 _ _ Ha.out.res;have z3:=frozen_of_row _ _ 3 _ _ Ha.out.res;have z4:=frozen_of_row _ _ 4 _ _ Ha.out.res;have z5:=frozen_of_row _ _ 5 _ _ Ha.out.res;go_wp2_with fail
    try rw[Hp]
    refine qs4 (ok:=false) Hf.out He.out HP.out.inv HP.out.sp HP.out.len HP.out.up (by have:=HP.out.few;omega) (fun h=>nomatch h) (fun _=>hA.out) ?_ ?_ ?_
    all_goals rfl
   have hY:=(show Hid ((m,x')∉W) from fun h=>by have:=hI.out.2 h;cases this);have HA:=HE w7 ve' vW E' W m x' p' r' He.out.at_ He.out.wi HP.out.inv HP.out.cm HP.out.par HP.out.sp Hj.out.1 Hj.out.2.1 hY.out (fun u hu=>by
    rcases HX.out.2.2.2.2 u hu with e|e
    ·rw[e];exact Hj.out.2.2
    ·exact e.trans Hj.out.2.2) (Nat.le_trans Hf.out (by have:=He.out.lt;omega)) (by have:=Hv.out.1;have:=HP.out.len;omega) (by have:=Hv.out.2;have:=HP.out.few;have:=HP.out.len;have:=HP.out.inv.few;omega)
   unfold qau qag at HA;have HY:=hd HA;clear HA;go_upto_region 19 with(go_at_call 58;refine Calls.mono HY.out ?_;rintro e w8 ⟨p5,ok,ve5,E5,r5,rfl,HI⟩;unfold qau qag;have HD:=hd HI;clear HI;dsimp only)
   have HB:=hd (He.out.ended HD.out.ck HD.out.at_);have Hc:=hd (HB.out.kept (w':=w8.alloc (.cells (qag p5) 94)) (ba _) (Nat.le_trans Hf.out (by have:=HB.out.lt;omega)));have Hb:=heap_alloc_new w8 (.cells (qag p5) 94);unfold qag at Hc Hb;generalize World.alloc w8 _=w9 at Hc Hb |-;generalize w8.heap.size=TB at Hb |-;have v0:=qaa Hb 0 _ rfl;have v1:=qaa Hb 1 _ rfl;have v2:=qaa Hb 2 _ rfl;have v3:=qaa Hb 3 _ rfl;have v4:=qaa Hb 4 _ rfl;have v5:=qaa Hb 5 _ rfl;clear Hb q0 q1 q2 q3 q4 q5 HB He;cases ok
   ·have hA:Hid (∀y,¬Pl.Done K.bd n x y):=Pl.Need.not Hj.out.2.2 (HD.out.no rfl)
    have Ha:=Hc;have q0:=qaa Hc.out.spot 0 _ rfl;have q1:=qaa Hc.out.spot 1 _ rfl;have q2:=qaa Hc.out.spot 2 _ rfl;have q3:=qaa Hc.out.spot 3 _ rfl;have q4:=qaa Hc.out.spot 4 _ rfl;have q5:=qaa Hc.out.spot 5 _ rfl;have rs0:=qaa Ha.out.res 0 _ rfl;have rs1:=qaa Ha.out.res 1 _ rfl;have rs2:=qaa Ha.out.res 2 _ rfl;have rs3:=qaa Ha.out.res 3 _ rfl;have rs4:=qaa Ha.out.res 4 _ rfl;have rs5:=qaa Ha.out.res 5 _ rfl;have z0:=frozen_of_row _ _ 0 _ _ Ha.out.res;have z1:=frozen_of_row _ _ 1 _ _ Ha.out.res;have z2:=frozen_of_row _ _ 2 _ _ Ha.out.res;have z3:=frozen_of_row _ _ 3 _ _ Ha.out.res;have z4:=frozen_of_row _ _ 4 _ _ Ha.out.res;have z5:=frozen_of_row _ _ 5 _ _ Ha.out.res;go_wp2_with fail
    try rw[Hp]
    refine qs4 (ok:=false) (p5:=p') (r5:=r5) Hf.out Hc.out HD.out.inv (HP.out.sp.le HD.out.up) (Nat.le_trans HP.out.len HD.out.len) (Nat.le_trans HP.out.up HD.out.up) (by have:=HP.out.few;have:=HD.out.le;have:=HD.out.len;have:=HP.out.len;omega) (fun h=>nomatch h) (fun _=>hA.out) ?_ ?_ ?_
    all_goals rfl
   obtain⟨y,hJ,HJ,HK⟩:=HD.out.yes rfl;have HN:=hd (HU.out hJ HJ HK HD.out.inv HD.out.sp HD.out.len HD.out.up HD.out.le);clear hJ HJ HK;have u0:=qaa Hc.out.spot 0 _ rfl;have u1:=qaa Hc.out.spot 1 _ rfl;have u2:=qaa Hc.out.spot 2 _ rfl;have u3:=qaa Hc.out.spot 3 _ rfl;have u4:=qaa Hc.out.spot 4 _ rfl;have u5:=qaa Hc.out.spot 5 _ rfl;have f0:=frozen_of_row _ _ 0 _ _ Hc.out.spot;have f1:=frozen_of_row _ _ 1 _ _ Hc.out.spot;have f2:=frozen_of_row _ _ 2 _ _ Hc.out.spot;have f3:=frozen_of_row _ _ 3 _ _ Hc.out.spot;have f4:=frozen_of_row _ _ 4 _ _ Hc.out.spot;have f5:=frozen_of_row _ _ 5 _ _ Hc.out.spot;go_wp2_with fail
   go_meet
   exact⟨i,_,_,_,_,_,_,Nat.le_refl _,rfl,Hc.out.set Hf.out p5,HN.out⟩
  case rest=>
  obtain⟨j,p'',x'',ve'',E'',r'',pre'',h1,rfl,hZ,hL⟩:=hcut;have H1:=hL.out.le;go_wp2_with fail
  refine⟨⟨j+1,p'',x'',ve'',E'',r'',pre'',by go_num,hZ,hL⟩,?_⟩;simp[intOf];omega
end Go.Proofs.YtfkhljmiehdgmaaGreatDoor
