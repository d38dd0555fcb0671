/-
  Steps of the proof.
-/
import Derived.Test.YtfkhljmiehdgmaaGreatDoorCmAT
set_option maxRecDepth 100000
set_option maxHeartbeats 40000000
namespace Go.Proofs.YtfkhljmiehdgmaaGreatDoor
open Go.RowKit
theorem qtt(w:World)(B g:Nat)(t:List UInt8)(c:Pl.Ct)(vp vo:Value)(h:CtAt w B g t c vp vo)(k:Nat)(n op cl:List UInt8)(a:Nat)(hk:k=3\/k=4)(h6:c.opened.length<6)(hn:c.parts.length<=4000) :
  Calls Tryz.prog 152 #[.pointer (some ⟨g,0,none⟩),qec ⟨k,0,n,op,cl⟩,.int .i64 a] w fun e w'=>e=.returned (.int .i64 (0:Nat))/\CtTo w w' B g t { c with parts:=c.parts++[⟨k,a,n,0⟩],opened:=c.opened++[c.parts.length] }:=by
 obtain⟨i0,hi,Hf,hg,Hg⟩:=info_parts qlm;obtain⟨i1,hj,Hi,Hj,Hk⟩:=info_parts q35;obtain⟨ao,cap,hl⟩:=qfg h.opened;obtain⟨ap,capp,Hl⟩:=qfg h.parts;have b3:=h.two 3 _ rfl;have b4:=h.two 4 _ rfl;have f4:=h.two' 4;have b3':∀o o' o'',(((w.alloc o).alloc o').alloc o'').cell? ⟨g,3,none⟩=some vp:=fun o o' o''=>(((h.alloc o).alloc o').alloc o'').cell 3 _ rfl;have b4':∀o o' o'',(((w.alloc o).alloc o').alloc o'').cell? ⟨g,4,none⟩=some vo:=fun o o' o''=>(((h.alloc o).alloc o').alloc o'').cell 4 _ rfl;have hm:B<=w.heap.size:=by have:=h.lt;have:=h.le;omega
 have c6:¬(c.opened.length:Int)=6:=by omega
 subst hl Hl;have H:=hd h;clear h;unfold qec bs;generalize hN:c.parts.length=N at *;generalize hM:c.opened.length=M at *;rcases hk with rfl|rfl
 all_goals
  go_enter Tryz.func152,Tryz.ntmps152
  go_wp2_with fail
  go_region_law (refine qbr rfl (.tmp 49) (.tmp 55) 36 rfl B 3 i1 (.int .i64 0) 1 8 Tryz.underlying36 hj Hi Hj Hk rfl (by decide) (.slice ao M cap) M _ (by simp[Act.eval]) (World.ownsRow.alloc (World.ownsRow.alloc (World.ownsRow.alloc (hM▸H.out.opened) _) _) _) ⟨_,0,none⟩ 1 1 [.int .i64 N] (by simp[Act.eval]) rfl (qc5 _ _ _) (by simp[Value.oneCell']) (by unfold maxLen;omega) (by omega) (by simp;omega) ?_;intro v' w' Ha Hc he;obtain⟨g',cap',rfl,_,_⟩:=qaj Ha (by omega);obtain⟨q4,r4⟩:=H.out.ahead (((ba _).alloc (by simp) _).alloc (by simp<;>omega) _).drew (.inr rfl) Hc 4 _ rfl)
  all_goals
   subst hN hM;obtain⟨hb,hc,He⟩:=H.out.pushAt (((ba _).alloc (by simp) _).alloc (by simp<;>omega) _).drew c.parts.length Ha Hc
   have kb:=He (w.heap.size+1) _ ((heap_alloc_old _ _ (by simp)).trans (q2q (w.alloc _) _ _ (by simp))) (by omega);clear He Ha Hc he b3 b4 b3' b4' f4 H q4 r4;generalize w'.setCell ⟨g,4,none⟩ (.slice (some ⟨g',0,none⟩) (c.opened.length+1) cap')=W2 at hb hc kb |-;have k0:=qaa kb 0 _ rfl;have k1:=qaa kb 1 _ rfl;have k2:=qaa kb 2 _ rfl;have k3:=qaa kb 3 _ rfl;have b3:=hb.cell 3 _ rfl;have f3:=hb.thaw 3;have b3':∀o,(W2.alloc o).cell? ⟨g,3,none⟩=some (.slice ap c.parts.length capp):=fun o=>(hb.alloc o).cell 3 _ rfl;have Hm:B<=W2.heap.size:=by have:=hc.below.size;omega
   have H2:=hd hb;have HC:=hd hc;clear hb hc kb;go_wp2_with fail
   go_region_law (refine qbr rfl (.tmp 119) (.tmp 121) 168 rfl B 229 i0 (.agg #[.int .i64 0,.int .i64 0,.string ⟨#[]⟩,.int .i64 0]) 4 40 Tryz.underlying168 hi Hf hg Hg qjt (by decide) (.slice ap c.parts.length capp) c.parts.length _ (by simp[Act.eval]) (World.ownsRow.alloc H2.out.parts _) ⟨_,0,none⟩ 1 1 [_,.int .i64 a,.string ⟨n.toArray⟩,.int .i64 0] (by simp[Act.eval]) rfl (qc5 _ _ _) (by simp[Value.oneCell']) (by unfold maxLen;omega) (by omega) (by simp;omega) ?_;intro v2 w3 ha Hb hf;obtain⟨g3,cap3,rfl,_,_⟩:=qaj ha (by omega);obtain⟨q3,r3⟩:=CtAt.ahead H2.out (ba _).drew (.inl rfl) Hb 3 _ rfl)
   all_goals
    go_wp2_with fail
    go_ret
    exact⟨rfl,CtTo.after HC.out (CtAt.moreTo H2.out (ba _).drew ⟨_,a,n,0⟩ ha Hb)⟩
end Go.Proofs.YtfkhljmiehdgmaaGreatDoor
