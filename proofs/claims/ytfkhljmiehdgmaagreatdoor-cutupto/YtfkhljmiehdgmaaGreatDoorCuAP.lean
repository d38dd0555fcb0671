/-
  Steps of the proof.
-/
import Derived.Test.YtfkhljmiehdgmaaGreatDoorCuAG
set_option maxRecDepth 100000
set_option maxHeartbeats 40000000
namespace Go.Proofs.YtfkhljmiehdgmaaGreatDoor
open Go.RowKit Go.Proofs.Tryz Pl
theorem qmw:(prog.info? 229).map (fun i=>(i.zero,i.size,i.bytes))=some (some (.agg #[zI 0,zI 0,zS,zI 0]),4,40):=by kernel_rfl
theorem q89:(prog.info? 3).map (fun i=>(i.zero,i.size,i.bytes))=some (some (zI 0),1,8):=by kernel_rfl
theorem qkp:(Value.agg #[zI 0,zI 0,zS,zI 0]).cells.size=4:=rfl
theorem qg6(t:zU)(a z:Nat):(⟨t.toArray⟩:zT).extract a z=⟨((t.drop a).take (z - a)).toArray⟩:=by
 rw[Lib.extract_eq]
theorem qrv(w:World)(B g:Nat)(t:zU)(c:Ct)(vp vo:Value)(a z:Nat)(h:CtAt w B g t c vp vo)(hz:z<=t.length)(hn:c.parts.length<=4000) :
  zC 147 #[zP g,zI a,zI z] w fun e w'=>(∃r,e=.returned r)/\CtTo w w' B g t (c.addText t a z):=by
 by_cases Ha:a<z
 rotate_left
 ·have HV:Hid (c.addText t a z=c):=by show _=_;unfold Ct.addText;rw[if_neg Ha]
  have c1:¬(a:Int)<(z:Int):=by omega
  rw[HV.out];have H:=zH h;clear HV Ha h;go_enter func147,ntmps147
  go_wp2
  go_end0
  exact⟨⟨_,rfl⟩,⟨⟨vp,vo,H.out⟩,Cur.refl _ _ _⟩⟩
 have HV:Hid (c.addText t a z={ c with parts:=c.parts++[⟨1,a,(t.drop a).take (z - a),0⟩] }):=by show _=_;unfold Ct.addText;rw[if_pos Ha]
 rw[HV.out];obtain⟨T,hT⟩:∃T,T=(⟨t.toArray⟩:zT):=⟨_,rfl⟩;have hf:T.size=t.length:=by rw[hT];simp[ByteArray.size]
 have HX:Hid (∀x:zT,x=T.extract a z->Value.string x=bs ((t.drop a).take (z - a))):=by
  rintro x rfl;rw[hT,qg6];rfl
 obtain⟨i0,hi,Hb,hc,Hc⟩:=info_parts qmw;have c1:(a:Int)<(z:Int):=by omega
 have c2:(z:Int)<=(T.size:Int):=by omega
 have c3:(a:Int)<=(z:Int):=by omega
 have b0:=h.cell 0 _ rfl;have b3:=h.cell 3 _ rfl;have f3:=h.thaw 3;have b4:(w.alloc (.cells #[zI 1,zI a,.string (T.extract a z),zI 0] 229)).cell? (zO g 3)=some vp:=(h.alloc _).cell 3 _ rfl;unfold bs at b0;rw[<-hT]at b0;have he:B<=w.heap.size:=by have:=h.lt;have:=h.le;omega
 have H:=zH h;clear HV Ha h hT;go_enter func147,ntmps147
 go_wp2
 go_region_law (refine qa6 rfl (.tmp 13) (.tmp 23) 168 rfl B 229 i0 (.agg #[zI 0,zI 0,zS,zI 0]) 4 40 underlying168 hi Hb hc Hc qkp (by decide) vp c.parts.length _ (by simp[Act.eval]) (World.ownsRow.alloc H.out.parts _) (zO _ 0) 1 1 [zI 1,zI a,.string (T.extract a z),zI 0] (by simp[Act.eval]) rfl (qcn _ _ _) (by simp[Value.oneCell']) (by unfold maxLen;omega) (by omega) (by simp;omega) ?_;intro v' w' ha hb He;obtain⟨g',cap',rfl,_,_⟩:=qai ha (by omega);obtain⟨q3,r3⟩:=H.out.ahead ((zB _).drew) (.inl rfl) hb 3 _ rfl)
 all_goals
  go_end0
  rw[HX.out _ rfl]at ha;exact⟨⟨_,rfl⟩,H.out.moreTo ((zB _).drew) ⟨1,a,_,0⟩ ha hb⟩
end Go.Proofs.YtfkhljmiehdgmaaGreatDoor
