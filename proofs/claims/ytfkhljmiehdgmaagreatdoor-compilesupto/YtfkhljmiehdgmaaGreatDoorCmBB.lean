/-
  Steps of the proof.
-/
import Derived.Test.YtfkhljmiehdgmaaGreatDoorCmAT
set_option maxRecDepth 100000
set_option maxHeartbeats 40000000
namespace Go.Proofs.YtfkhljmiehdgmaaGreatDoor
open Go.RowKit Go.Maps
theorem q2h(S:List Pl.Src)(hS:SrcsOk S)(w:World)(B:Nat)(F:Fix)(vv:Value)(M:List Nat)(s:Pl.Sr)(e:Pl.En)(h:SvAt w B F S vv M s)(hN:NumsOk S.length s.nums)(hi:e.1<S.length)(he:Pl.SxFit e.2)(hl:s.vis.length<=1000)(hB:B<=w.heap.size) :
  Calls Tryz.prog 105 #[.pointer (some ⟨F.g,0,none⟩),qf9 e] w fun ed w'=>∃g vv',ed=.returned (.tuple #[F.pv e.1,.slice (some ⟨g,0,none⟩) (Pl.qab S e.1).length (Pl.qab S e.1).length])/\SvAt w' B F S vv' (M++[g]) (Pl.begun S s e)/\Cuv B F w w'/\w.heap.size<=g:=by
 obtain⟨src,ha⟩:∃src,S[e.1]?=some src:=⟨S[e.1],List.getElem?_eq_getElem hi⟩;have hP:Pl.qab S e.1=src.parts:=by unfold Pl.qab;rw[ha]
 have Hu:=(hS.parts e.1 src ha).1;obtain⟨ao,cap,hv⟩:=qas (h.se.src.row e.1 src ha);have b0:∀o,(w.alloc o).cell? ⟨F.g,0,none⟩=some (.slice (some ⟨F.bS,0,none⟩) S.length S.length):=fun o=>(h.se.alloc o).cell 0 _ rfl;have b1:∀o,(w.alloc o).cell? ⟨F.bS,e.1*2+1,none⟩=some (.slice ao src.parts.length cap):=fun o=>((h.se.alloc o).src.slice e.1 src ha).trans (by rw[hv]);have b2:∀o o',((w.alloc o).alloc o').cell? ⟨F.g,0,none⟩=some (.slice (some ⟨F.bS,0,none⟩) S.length S.length):=fun o o'=>((h.se.alloc o).alloc o').cell 0 _ rfl;have b3:∀o o',((w.alloc o).alloc o').cell? ⟨F.bS,e.1*2+1,none⟩=some (.slice ao src.parts.length cap):=fun o o'=>(((h.se.alloc o).alloc o').src.slice e.1 src ha).trans (by rw[hv]);have b4:∀o o' o'',(((w.alloc o).alloc o').alloc o'').cell? ⟨F.g,0,none⟩=some (.slice (some ⟨F.bS,0,none⟩) S.length S.length):=fun o o' o''=>(((h.se.alloc o).alloc o').alloc o'').cell 0 _ rfl;have b5:∀o o' o'',(((w.alloc o).alloc o').alloc o'').cell? ⟨F.bS,e.1*2+1,none⟩=some (.slice ao src.parts.length cap):=fun o o' o''=>((((h.se.alloc o).alloc o').alloc o'').src.slice e.1 src ha).trans (by rw[hv]);have c1:(e.1:Int)<(S.length:Int):=by omega
 have ho:=run_make_row' (P:=Tryz.prog) 36 3 (.int .i64 0) 8 Tryz.underlying36 qzj rfl .i64 .i64 src.parts.length (by omega) (by omega);rw[hP,qbi];unfold qao bs;have HA:Hid (Vis1 w (((w.alloc (.cells #[.int .i64 e.1,.int .u8 (e.2.st.mode:Int),.string ⟨e.2.st.name.toArray⟩,.string ⟨e.2.st.elem.toArray⟩,.int .i64 e.2.st.kind,.int .i64 (e.2.st.read:Int),.bool e.2.ma.ref,.bool e.2.st.esc,.int .i64 e.2.ma.hex,.int .i64 e.2.ma.pct,.int .i64 e.2.ma.far] 180)).alloc (.cells (madeCells #[.int .i64 0] src.parts.length) 3)).alloc (.cells #[.slice ao src.parts.length cap,.slice (some ⟨w.heap.size+1,0,none⟩) src.parts.length src.parts.length] 205)).drew B F S vv M s e src.parts.length (w.heap.size+1+1) (w.heap.size+1)):=by
  have hb:=((((Below.refl w.heap.size w).alloc (Nat.le_refl _) (.cells (qao e) 180)).alloc (by simp) (.cells (madeCells #[.int .i64 0] src.parts.length) 3)).alloc (by simp;omega) (.cells #[.slice ao src.parts.length cap,.slice (some ⟨w.heap.size+1,0,none⟩) src.parts.length src.parts.length] 205)).drew;refine⟨h.below hb,(heap_alloc_old _ _ (by simp;omega)).trans ((heap_alloc_old _ _ (by simp)).trans (heap_alloc_new w _)),?_,?_,by omega,hb⟩
  ·rw[<-hv];exact qal (World.alloc (w.alloc _) _) _ _ (by simp)
  ·rw[<-qq1];exact(heap_alloc_old _ _ (by simp)).trans (qal (w.alloc _) _ _ (by simp))
 have Hl:Hid (Vis1 w (((w.alloc (.cells #[.int .i64 e.1,.int .u8 (e.2.st.mode:Int),.string ⟨e.2.st.name.toArray⟩,.string ⟨e.2.st.elem.toArray⟩,.int .i64 e.2.st.kind,.int .i64 (e.2.st.read:Int),.bool e.2.ma.ref,.bool e.2.st.esc,.int .i64 e.2.ma.hex,.int .i64 e.2.ma.pct,.int .i64 e.2.ma.far] 180)).alloc (.cells #[.slice ao src.parts.length cap,.slice (some ⟨w.heap.size+1+1,0,none⟩) src.parts.length src.parts.length] 205)).alloc (.cells (madeCells #[.int .i64 0] src.parts.length) 3)).drew B F S vv M s e src.parts.length (w.heap.size+1) (w.heap.size+1+1)):=by
  have hb:=((((Below.refl w.heap.size w).alloc (Nat.le_refl _) (.cells (qao e) 180)).alloc (by simp) (.cells #[.slice ao src.parts.length cap,.slice (some ⟨w.heap.size+1+1,0,none⟩) src.parts.length src.parts.length] 205)).alloc (by simp;omega) (.cells (madeCells #[.int .i64 0] src.parts.length) 3)).drew;refine⟨h.below hb,(heap_alloc_old _ _ (by simp;omega)).trans ((heap_alloc_old _ _ (by simp)).trans (heap_alloc_new w _)),?_,?_,by omega,hb⟩
  ·rw[<-hv];exact(heap_alloc_old _ _ (by simp)).trans (qal (w.alloc _) _ _ (by simp))
  ·rw[<-qq1];exact qal (World.alloc (w.alloc _) _) _ _ (by simp)
 obtain⟨av,cv,Hi⟩:=qas h.row;have He:∀g∈M,g<w.heap.size:=fun g hg=>by
  obtain⟨k,hk⟩:=List.getElem?_of_mem hg;have Ho:k<s.vis.length:=by rw[<-h.len];exact(List.getElem?_eq_some_iff.1 hk).1
  exact(Array.getElem?_eq_some_iff.1 (h.marks k g _ hk (List.getElem?_eq_getElem Ho)).1).1
 have HM:=hd He;have hf:=hd (fun k hk=>(h.row.lt k hk).2);have Hm:=hd hv;have Hj:=hd ha;obtain⟨i0,hp,Hp,hq,Hq⟩:=info_parts q1i;have Hv:=Cuv.refl B F w;clear h He;go_enter Tryz.func105,Tryz.ntmps105
 go_wp2_with fail
 go_cut [6] (fun s6 wx=>∃gV gM,s6=.pointer (some ⟨gV,0,none⟩)/\Hid (Vis1 w wx B F S vv M s e src.parts.length gV gM))
 case first=>
  go_region
  all_goals
   go_wp2_with fail
   go_meet
   case rel=>first|exact⟨_,_,rfl,HA.out⟩|exact⟨_,_,rfl,Hl.out⟩
 case rest=>
  obtain⟨gV,gM,rfl,H1⟩:=hcut;clear HA Hl b0 b1 b2 b3 b4 b5 ho c1;have hn:gM∉M:=fun hm=>by have:=HM.out gM hm;have:=H1.out.old.2;omega
  have hr:=hd hn;obtain⟨w5,Hb,Hn,hj,Hr⟩:=q04 H1.out.sv.drew.nums hN hS.few.2 e he (by have:=hS.few.2;omega) s.vis.length;have h5:=H1.out.sv.drew.numsPut Hn hj;have hs:B<=w5.heap.size:=by
   have h1:=H1.out.below.size;have h2:wc.drew.heap.size=wc.heap.size:=rfl;omega
  clear Hr;simp only[qbi]at Hb;unfold qao bs at Hb;have b3:wc.cell? ⟨F.g,3,none⟩=some (.map (some F.bn)):=H1.out.sv.se.cell 3 _ rfl;have b4:wc.cell? ⟨F.g,4,none⟩=some (.slice av s.vis.length cv):=(H1.out.sv.se.cell 4 _ rfl).trans (by rw[Hi];rfl);have hc:=qcn H1.out.ent;unfold qao bs at hc;have m0:=hc 0 _ rfl;have m1:=hc 1 _ rfl;have m2:=hc 2 _ rfl;have m3:=hc 3 _ rfl;have m4:=hc 4 _ rfl;have m5:=hc 5 _ rfl;have m6:=hc 6 _ rfl;have m7:=hc 7 _ rfl;have m8:=hc 8 _ rfl;have m9:=hc 9 _ rfl;have m10:=hc 10 _ rfl;have Ha:Hid (w5.heap[gV]?=some (.cells #[F.pv e.1,.slice (some ⟨gM,0,none⟩) src.parts.length src.parts.length] 205 (0,0))):=(hj.block gV (Array.getElem?_eq_some_iff.1 H1.out.vis).1 (fun x=>qak H1.out.vis H1.out.sv.nums (Option.some.inj x))).trans H1.out.vis;have Hs:Hid (w5.heap[gM]?=some (.cells (qf7 (List.replicate src.parts.length 0)).toArray 3 (0,0))):=(hj.block gM (Array.getElem?_eq_some_iff.1 H1.out.mks).1 (fun x=>qak H1.out.mks H1.out.sv.nums (Option.some.inj x))).trans H1.out.mks;clear hc hn Hn hj;have H5:=hd h5.1;have ht:=hd h5.2;clear h5;go_wp2_with fail
  go_region
  go_wp2_with fail
  clear b3 b4 m0 m1 m2 m3 m4 m5 m6 m7 m8 m9 m10 Hb;have b4:∀o,(w5.alloc o).cell? ⟨F.g,4,none⟩=some (.slice av s.vis.length cv):=fun o=>((H5.out.se.alloc o).cell 4 _ rfl).trans (by rw[Hi];rfl);have b5:w5.cell? ⟨F.g,4,none⟩=some (.slice av s.vis.length cv):=(H5.out.se.cell 4 _ rfl).trans (by rw[Hi];rfl);have v0:w5.cell? ⟨gV,0,none⟩=some (F.pv e.1):=qaa Ha.out 0 _ rfl;have v1:w5.cell? ⟨gV,1,none⟩=some (.slice (some ⟨gM,0,none⟩) src.parts.length src.parts.length):=qaa Ha.out 1 _ rfl;have v2:∀o,(w5.alloc o).cell? ⟨gV,0,none⟩=some (F.pv e.1):=fun o=>qaa ((heap_alloc_old w5 o (Array.getElem?_eq_some_iff.1 Ha.out).1).trans Ha.out) 0 _ rfl;have v3:∀o,(w5.alloc o).cell? ⟨gV,1,none⟩=some (.slice (some ⟨gM,0,none⟩) src.parts.length src.parts.length):=fun o=>qaa ((heap_alloc_old w5 o (Array.getElem?_eq_some_iff.1 Ha.out).1).trans Ha.out) 1 _ rfl;have Hf:Hid (qh9 F e.1 gM src.parts.length=[.slice ao src.parts.length cap,.slice (some ⟨gM,0,none⟩) src.parts.length src.parts.length]):=by show _=_;unfold qh9;rw[Hm.out]
  rw[Hi]at H5 hf;go_cut [] (fun wx=>∃v',Hid (SvAt wx B F S v' (M++[gM]) (Pl.begun S s e)/\Cuv B F w5 wx/\wx.heap[gV]?=w5.heap[gV]?))
  case first=>
   go_region_law (refine qbr rfl (.tmp 42) (.tmp 44) 75 rfl B 205 i0 (.agg #[.slice none 0 0,.slice none 0 0]) 2 48 Tryz.underlying75 hp Hp hq Hq qwg (by decide) (.slice av s.vis.length cv) s.vis.length _ (by simp[Act.eval]) (World.ownsRow.alloc H5.out.row _) ⟨_,0,none⟩ 1 1 [.slice ao src.parts.length cap,.slice (some ⟨gM,0,none⟩) src.parts.length src.parts.length] (by simp[Act.eval]) rfl (qc5 _ _ _) (by simp[Value.oneCell']) (by unfold maxLen;omega) (by omega) (by simp;omega) ?_;intro v' w6 Hc Hk Ht;obtain⟨g',cap',rfl,_,_⟩:=qaj Hc (by omega);obtain⟨q4,r4⟩:=SvAt.ahead H5.out (ba _).drew Hk)
   all_goals
    go_wp2_with fail
    go_meet
    case rel=>
     rw[<-Hf.out]at Hc;have Hg:=SvAt.visit H5.out (ba _).drew Hs.out (Nat.le_trans hB H1.out.old.2) hr.out Hc Hk;have hu:gV<w5.heap.size:=(Array.getElem?_eq_some_iff.1 Ha.out).1;have e9:Pl.begun S s e={ s with nums:=Pl.qa5 s.nums e s.vis.length,vis:=s.vis++[(e.1,List.replicate src.parts.length 0)] }:=by
      unfold Pl.begun;rw[show Pl.qab S e.1=src.parts by unfold Pl.qab;rw[Hj.out]]
     refine⟨.slice (some ⟨g',0,none⟩) (s.vis.length+1) cap',?_,Hg.2,?_⟩
     ·rw[e9]
      exact Hg.1
     ·refine(Below.heap_setCell _ _ _ _ (qae Ha.out H5.out.se.blk qea)).trans ((Hk.block gV (by simp;omega) (fun q=>?_)).trans (heap_alloc_old w5 _ hu))
      have:=hf.out gV q.symm;have:=H1.out.old.1;omega
  case rest=>
   obtain⟨v',H9⟩:=hcut;have v4:=H9.out.2.2.trans Ha.out;have v0:=qaa v4 0 _ rfl;have v1:=qaa v4 1 _ rfl;clear v4;go_wp2_with fail
   go_quiet (fail)
   go_wp2_with fail
   go_ret2
   refine⟨gM,v',by rw[Hm.out];rfl,H9.out.1.below (qay (Below.refl _ _) _),?_,H1.out.old.2⟩;exact((Cuv.of_below H1.out.below hB).trans ((Cuv.of_below (Below.refl _ _).drew (Nat.le_trans hB H1.out.below.size)).trans ht.out)).trans (H9.out.2.1.trans (Cuv.of_below (qay (Below.refl _ _) _) (Nat.le_trans hs H9.out.2.1.below.size)))
end Go.Proofs.YtfkhljmiehdgmaaGreatDoor
