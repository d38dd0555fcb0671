/-
  Steps of the proof.
-/
import Derived.Test.YtfkhljmiehdgmaaGreatDoorCuAS
set_option maxRecDepth 100000
set_option maxHeartbeats 40000000
namespace Go.Proofs.YtfkhljmiehdgmaaGreatDoor
open Go.RowKit Go.Proofs.Tryz Pl
section
open Go.Maps
theorem q63(S:List Src)(hS:SrcsOk S)(w:World)(B:Nat)(F:Fix)(vv:Value)(M:List Nat)(s:Sr)(e:En)(h:SvAt w B F S vv M s)(hN:NumsOk S.length s.nums)(hi:e.1<S.length)(he:SxFit e.2)(hl:s.vis.length<=1000)(hB:B<=w.heap.size) :
  zC 105 #[zP F.g,qge e] w fun ed w'=>∃g vv',ed=.returned (.tuple #[F.pv e.1,zF g (qah S e.1).length (qah S e.1).length])/\SvAt w' B F S vv' (M++[g]) (begun S s e)/\Cuv B F w w'/\w.heap.size<=g:=by
 obtain⟨src,ha⟩:∃src,S[e.1]?=some src:=⟨S[e.1],yc hi⟩;have hP:qah S e.1=src.parts:=by unfold qah;rw[ha]
 have Hu:=(hS.parts e.1 src ha).1;obtain⟨ao,cap,hv⟩:=qaq (h.se.src.row e.1 src ha);have b0:∀o,(w.alloc o).cell? (zO F.g 0)=some (zF F.bS S.length S.length):=fun o=>(h.se.alloc o).cell 0 _ rfl;have b1:∀o,(w.alloc o).cell? (zO F.bS (e.1*2+1))=some (.slice ao src.parts.length cap):=fun o=>((h.se.alloc o).src.slice e.1 src ha).trans (by rw[hv]);have b2:∀o o',((w.alloc o).alloc o').cell? (zO F.g 0)=some (zF F.bS S.length S.length):=fun o o'=>((h.se.alloc o).alloc o').cell 0 _ rfl;have b3:∀o o',((w.alloc o).alloc o').cell? (zO F.bS (e.1*2+1))=some (.slice ao src.parts.length cap):=fun o o'=>(((h.se.alloc o).alloc o').src.slice e.1 src ha).trans (by rw[hv]);have b4:∀o o' o'',(((w.alloc o).alloc o').alloc o'').cell? (zO F.g 0)=some (zF F.bS S.length S.length):=fun o o' o''=>(((h.se.alloc o).alloc o').alloc o'').cell 0 _ rfl;have b5:∀o o' o'',(((w.alloc o).alloc o').alloc o'').cell? (zO F.bS (e.1*2+1))=some (.slice ao src.parts.length cap):=fun o o' o''=>((((h.se.alloc o).alloc o').alloc o'').src.slice e.1 src ha).trans (by rw[hv]);have c1:(e.1:Int)<(S.length:Int):=by omega
 have ho:=run_make_row' (P:=prog) 36 3 (zI 0) 8 underlying36 q3d rfl .i64 .i64 src.parts.length (by omega) (by omega);rw[hP,qbj];unfold qao bs;have HA:Hid (Vis1 w (((w.alloc (.cells #[zI e.1,zJ (e.2.st.mode:Int),zV e.2.st.name,zV e.2.st.elem,zI e.2.st.kind,zI (e.2.st.read:Int),.bool e.2.ma.ref,.bool e.2.st.esc,zI e.2.ma.hex,zI e.2.ma.pct,zI e.2.ma.far] 180)).alloc (.cells (madeCells #[zI 0] src.parts.length) 3)).alloc (.cells #[.slice ao src.parts.length cap,zF (w.heap.size+1) src.parts.length src.parts.length] 205)).drew B F S vv M s e src.parts.length (w.heap.size+1+1) (w.heap.size+1)):=by
  have hb:=((((xM w.heap.size w).alloc (yg _) (.cells (qao e) 180)).alloc (by simp) (.cells (madeCells #[zI 0] src.parts.length) 3)).alloc (by simp;omega) (.cells #[.slice ao src.parts.length cap,zF (w.heap.size+1) src.parts.length src.parts.length] 205)).drew;refine⟨h.below hb,(xJ _ _ (by simp;omega)).trans ((xJ _ _ (by simp)).trans (xG w _)),?_,?_,by omega,hb⟩
  ·rw[<-hv];exact qap (World.alloc (w.alloc _) _) _ _ (by simp)
  ·rw[<-qs4];exact(xJ _ _ (by simp)).trans (qap (w.alloc _) _ _ (by simp))
 have Hl:Hid (Vis1 w (((w.alloc (.cells #[zI e.1,zJ (e.2.st.mode:Int),zV e.2.st.name,zV e.2.st.elem,zI e.2.st.kind,zI (e.2.st.read:Int),.bool e.2.ma.ref,.bool e.2.st.esc,zI e.2.ma.hex,zI e.2.ma.pct,zI e.2.ma.far] 180)).alloc (.cells #[.slice ao src.parts.length cap,zF (w.heap.size+1+1) src.parts.length src.parts.length] 205)).alloc (.cells (madeCells #[zI 0] src.parts.length) 3)).drew B F S vv M s e src.parts.length (w.heap.size+1) (w.heap.size+1+1)):=by
  have hb:=((((xM w.heap.size w).alloc (yg _) (.cells (qao e) 180)).alloc (by simp) (.cells #[.slice ao src.parts.length cap,zF (w.heap.size+1+1) src.parts.length src.parts.length] 205)).alloc (by simp;omega) (.cells (madeCells #[zI 0] src.parts.length) 3)).drew;refine⟨h.below hb,(xJ _ _ (by simp;omega)).trans ((xJ _ _ (by simp)).trans (xG w _)),?_,?_,by omega,hb⟩
  ·rw[<-hv];exact(xJ _ _ (by simp)).trans (qap (w.alloc _) _ _ (by simp))
  ·rw[<-qs4];exact qap (World.alloc (w.alloc _) _) _ _ (by simp)
 obtain⟨av,cv,Hi⟩:=qaq h.row;have He:∀g∈M,g<w.heap.size:=fun g hg=>by
  obtain⟨k,hk⟩:=xo hg;have Ho:k<s.vis.length:=by rw[<-h.len];exact(yb.1 hk).1
  exact(ya.1 (h.marks k g _ hk (yc Ho)).1).1
 have HM:=zH He;have hf:=zH (fun k hk=>(h.row.lt k hk).2);have Hm:=zH hv;have Hj:=zH ha;obtain⟨i0,hp,Hp,hq,Hq⟩:=info_parts q5y;have Hv:=Cuv.refl B F w;clear h He;go_enter func105,ntmps105
 go_wp2
 go_cut [6] (fun s6 wx=>∃gV gM,s6=zP gV/\Hid (Vis1 w wx B F S vv M s e src.parts.length gV gM))
 case first=>
  go_region
  all_goals
   go_wp2
   go_meet
   case rel=>first|exact⟨_,_,rfl,HA.out⟩|exact⟨_,_,rfl,Hl.out⟩
 case rest=>
  obtain⟨gV,gM,rfl,H1⟩:=hcut;clear HA Hl b0 b1 b2 b3 b4 b5 ho c1;have hn:gM∉M:=fun hm=>by have:=HM.out gM hm;have:=H1.out.old.2;omega
  have hr:=zH hn;obtain⟨w5,Hb,Hn,hj,Hr⟩:=q5g H1.out.sv.drew.nums hN hS.few.2 e he (by have:=hS.few.2;omega) s.vis.length;have h5:=H1.out.sv.drew.numsPut Hn hj;have hs:B<=w5.heap.size:=by
   have h1:=H1.out.below.size;have h2:wc.drew.heap.size=wc.heap.size:=rfl;omega
  clear Hr;simp only[qbj]at Hb;unfold qao bs at Hb;have b3:wc.cell? (zO F.g 3)=some (.map (some F.bn)):=H1.out.sv.se.cell 3 _ rfl;have b4:wc.cell? (zO F.g 4)=some (.slice av s.vis.length cv):=(H1.out.sv.se.cell 4 _ rfl).trans (by rw[Hi];rfl);have hc:=qct H1.out.ent;unfold qao bs at hc;have m0:=al hc;have Ha:Hid (w5.heap[gV]?=zK #[F.pv e.1,zF gM src.parts.length src.parts.length] 205):=(hj.block gV (ya.1 H1.out.vis).1 (fun x=>qak H1.out.vis H1.out.sv.nums (yk x))).trans H1.out.vis;have Hs:Hid (w5.heap[gM]?=zK ((qe2 (List.replicate src.parts.length 0)).toArray) 3):=(hj.block gM (ya.1 H1.out.mks).1 (fun x=>qak H1.out.mks H1.out.sv.nums (yk x))).trans H1.out.mks;clear hc hn Hn hj;have H5:=zH h5.1;have ht:=zH h5.2;clear h5;go_wp2
  go_region
  go_wp2
  clear b3 b4 m0 Hb;have b4:∀o,(w5.alloc o).cell? (zO F.g 4)=some (.slice av s.vis.length cv):=fun o=>((H5.out.se.alloc o).cell 4 _ rfl).trans (by rw[Hi];rfl);have b5:w5.cell? (zO F.g 4)=some (.slice av s.vis.length cv):=(H5.out.se.cell 4 _ rfl).trans (by rw[Hi];rfl);have v0:w5.cell? (zO gV 0)=some (F.pv e.1):=qaa Ha.out 0 _ rfl;have v1:w5.cell? (zO gV 1)=some (zF gM src.parts.length src.parts.length):=qaa Ha.out 1 _ rfl;have v2:∀o,(w5.alloc o).cell? (zO gV 0)=some (F.pv e.1):=fun o=>qaa ((xJ w5 o (ya.1 Ha.out).1).trans Ha.out) 0 _ rfl;have v3:∀o,(w5.alloc o).cell? (zO gV 1)=some (zF gM src.parts.length src.parts.length):=fun o=>qaa ((xJ w5 o (ya.1 Ha.out).1).trans Ha.out) 1 _ rfl;have Hf:Hid (qip F e.1 gM src.parts.length=[.slice ao src.parts.length cap,zF gM src.parts.length src.parts.length]):=by show _=_;unfold qip;rw[Hm.out]
  rw[Hi]at H5 hf;go_cut [] (fun wx=>∃v',Hid (SvAt wx B F S v' (M++[gM]) (begun S s e)/\Cuv B F w5 wx/\wx.heap[gV]?=w5.heap[gV]?))
  case first=>
   go_region_law (refine qa6 rfl (.tmp 42) (.tmp 44) 75 rfl B 205 i0 (.agg #[zN,zN]) 2 48 underlying75 hp Hp hq Hq qzv (by decide) (.slice av s.vis.length cv) s.vis.length _ (by simp[Act.eval]) (World.ownsRow.alloc H5.out.row _) (zO _ 0) 1 1 [.slice ao src.parts.length cap,zF gM src.parts.length src.parts.length] (by simp[Act.eval]) rfl (qcn _ _ _) (by simp[Value.oneCell']) (by unfold maxLen;omega) (by omega) (by simp;omega) ?_;intro v' w6 Hc Hk Ht;obtain⟨g',cap',rfl,_,_⟩:=qai Hc (by omega);obtain⟨q4,r4⟩:=SvAt.ahead H5.out (zB _).drew Hk)
   all_goals
    go_wp2
    go_meet
    case rel=>
     rw[<-Hf.out]at Hc;have Hg:=SvAt.visit H5.out (zB _).drew Hs.out (yh hB H1.out.old.2) hr.out Hc Hk;have hu:gV<w5.heap.size:=(ya.1 Ha.out).1;have e9:begun S s e={ s with nums:=qbi s.nums e s.vis.length,vis:=s.vis++[(e.1,List.replicate src.parts.length 0)] }:=by
      unfold begun;rw[show qah S e.1=src.parts by unfold qah;rw[Hj.out]]
     refine⟨zF g' (s.vis.length+1) cap',?_,Hg.2,?_⟩
     ·rw[e9]
      exact Hg.1
     ·refine(xL _ _ _ _ (qae Ha.out H5.out.se.blk qef)).trans ((Hk.block gV (by simp;omega) (fun q=>?_)).trans (xJ w5 _ hu))
      have:=hf.out gV q.symm;have:=H1.out.old.1;omega
  case rest=>
   obtain⟨v',H9⟩:=hcut;have v4:=H9.out.2.2.trans Ha.out;have v0:=qaa v4 0 _ rfl;have v1:=qaa v4 1 _ rfl;clear v4;go_wp2
   go_quiet (fail)
   go_wp2
   go_ret2
   refine⟨gM,v',by rw[Hm.out];rfl,H9.out.1.below (qat (xM _ _) _),?_,H1.out.old.2⟩;exact((Cuv.of_below H1.out.below hB).trans ((Cuv.of_below (xM _ _).drew (yh hB H1.out.below.size)).trans ht.out)).trans (H9.out.2.1.trans (Cuv.of_below (qat (xM _ _) _) (yh hs H9.out.2.1.below.size)))
end
end Go.Proofs.YtfkhljmiehdgmaaGreatDoor
