/-
  Steps of the proof.
-/
import Derived.Test.YtfkhljmiehdgmaaGreatDoorCuAH
import Derived.Test.YtfkhljmiehdgmaaGreatDoorCuBJ
set_option maxRecDepth 100000
set_option maxHeartbeats 40000000
namespace Go.Proofs.YtfkhljmiehdgmaaGreatDoor
open Go.RowKit Go.Proofs.Tryz Pl
theorem q2c(w:World):PredGrows prog 228 #[] qcm w:=fun W x hx _=>q1h x W hx
theorem q1q(s:zT)(w:World)(hs:s.size<=100000) :
  zC 227 #[.string s,.func (.func 228) #[] #[]] w fun e w'=>∃A,e=.returned (zF A (Lib.goFieldsP qcm s).length (Lib.goFieldsP qcm s).length)/\w.heap.size<=A /\
   (∀j x,(Lib.goFieldsP qcm s)[j]?=some x->w'.cell? (zO A j)=some (.string x))/\zW w w':=by
 refine(strings_FieldsFunc_grows 228 #[] (fun _ _=>by kernel_rfl) qcm s w (by omega) (q2c w)).mono ?_;rintro e w' ⟨A,he,hA,ho,hb⟩;refine⟨A,he,hA,fun j x hj=>?_,hb⟩;have ha:j<(Lib.goFieldsP qcm s).length:=(yb.1 hj).1;rw[ho.cellAt j (by omega),yz,hj];rfl
def rdTg:List zU->Tg
 |[a,b]=>if qeb a=true/\qeb b=true then⟨8,0,[],a,b⟩else⟨8,4,[],[],[]⟩
 |_=>⟨8,4,[],[],[]⟩
theorem zbv(l:List zU)(h:l.length≠2):rdTg l=⟨8,4,[],[],[]⟩:=by
 match l,h with
 |[],_=>rfl
 |[_],_=>rfl
 |[_,_],h=>exact absurd rfl h
 |_::_::_::_,_=>rfl
theorem q8b(c:zU):qdc c=if Lib.hasSuffix (c.drop 1) [61]=false then⟨8,4,[],[],[]⟩else rdTg (qfy (Lib.trimSuffix (c.drop 1) [61])):=rfl
theorem qr4(s:zT)(w:World)(I:zT)(b:Bool)(F:List zT)(r:Tg)(hs:s.size≠0)
  (hC:∀w,zC 226 #[.string (s.extract 1 s.size),.string ⟨#[61]⟩] w (zQ (.tuple #[.string I,.bool b]) w))
  (hF:∀w,zC 227 #[.string I,.func (.func 228) #[] #[]] w fun e w'=>∃A,e=.returned (zF A F.length F.length)/\w.heap.size<=A /\
   (∀j x,F[j]?=some x->w'.cell? (zO A j)=some (.string x))/\zW w w')
  (hr:r=if b=false then⟨8,4,[],[],[]⟩else rdTg (F.map (·.data.toList))) :
  zC 194 #[.string s] w (zR (qeh r) w):=by
 have HC:=zH hC;have HF:=zH hF;have HD:=zH q1f;have c1:(1:Int)<=(s.size:Int):=by omega
 clear hC hF hs;by_cases hb:b=false
 ·subst hb
  simp only[if_true]at hr;subst hr;go_enter func194,ntmps194
  go_wp2_with (first
   |(go_at_call 226;refine xR (HC.out _) ?_;rintro e w' ⟨rfl,rfl⟩)
   | (go_at_call 227;refine xR (HF.out _) ?_;rintro e w' ⟨A,rfl,hA,hK,hb⟩;have hS:=(qd4 w).next hb;obtain⟨⟨k0,k1,k2,k3,k4⟩,f0,f1,f2,f3,f4⟩:=hS.facts;have HS:=zH hS;clear hb hS hK))
  exact qgr (w0:=w) ⟨8,4,[],[],[]⟩ results194 rfl rfl HS.out rfl
 obtain rfl:b=true:=by simpa using hb
 clear hb;simp only[Bool.true_eq_false,if_false]at hr;by_cases hn:F.length=2
 rotate_left
 ·have ha:r=⟨8,4,[],[],[]⟩:=by
   rw[hr];exact zbv _ (by rw[yR];exact hn)
  have hc:((F.length:Int) != 2)=true:=by rw[bne_iff_ne];omega
  have Ha:¬(F.length:Int)=2:=by omega
  clear hr;subst ha;generalize F.length=n at HF hc Ha;clear hn;go_enter func194,ntmps194
  go_wp2_with (first
   |(go_at_call 226;refine xR (HC.out _) ?_;rintro e w' ⟨rfl,rfl⟩)
   | (go_at_call 227;refine xR (HF.out _) ?_;rintro e w' ⟨A,rfl,hA,hK,hb⟩;have hS:=(qd4 w).next hb;obtain⟨⟨k0,k1,k2,k3,k4⟩,f0,f1,f2,f3,f4⟩:=hS.facts;have HS:=zH hS;clear hb hS hK))
  exact qgr (w0:=w) ⟨8,4,[],[],[]⟩ results194 rfl rfl HS.out rfl
 obtain⟨x,y,rfl⟩:∃x y,F=[x,y]:=by
  match F,hn with
  |[x,y],_=>exact⟨x,y,rfl⟩
 simp only[List.map_cons,List.map_nil,rdTg]at hr
 have Hb:Hid (∀w,zC 227 #[.string I,.func (.func 228) #[] #[]] w fun e w'=>∃A,e=.returned (zF A 2 2)/\w.heap.size<=A /\
   (w'.cell? (zO A 0)=some (.string x)/\w'.cell? (zO A 1)=some (.string y))/\zW w w'):=fun w=>(HF.out w).mono (by
  rintro e w' ⟨A,he,hA,hK,hb⟩;exact⟨A,he,hA,⟨hK 0 x rfl,hK 1 y rfl⟩,hb⟩)
 clear HF hn;by_cases h1:qeb x.data.toList=true
 rotate_left
 ·have h1:=ye.2 h1
  have ha:r=⟨8,4,[],[],[]⟩:=by rw[hr,h1];simp
  clear hr;subst ha;have HX:Hid (∀w,zC 229 #[.string x] w (zQ (.bool false) w)):=fun w=>h1▸HD.out x w;clear h1 HD;go_enter func194,ntmps194
  go_wp2_with (first
   |(go_at_call 226;refine xR (HC.out _) ?_;rintro e w' ⟨rfl,rfl⟩)
   |(go_at_call 227;refine xR (Hb.out _) ?_;rintro e w' ⟨A,rfl,hA,⟨Hc,He⟩,hb⟩;have hS:=(qd4 w).next hb;obtain⟨⟨k0,k1,k2,k3,k4⟩,f0,f1,f2,f3,f4⟩:=hS.facts;have HS:=zH hS;clear hb hS)
   | (go_at_call 229;refine xR (HX.out _) ?_;rintro e w'' ⟨rfl,rfl⟩))
  exact qgr (w0:=w) ⟨8,4,[],[],[]⟩ results194 rfl rfl HS.out rfl
 have HX:Hid (∀w,zC 229 #[.string x] w (zQ (.bool true) w)):=fun w=>h1▸HD.out x w;by_cases h2:qeb y.data.toList=true
 rotate_left
 ·have h2:=ye.2 h2
  have ha:r=⟨8,4,[],[],[]⟩:=by rw[hr,h2];simp
  clear hr;subst ha;obtain⟨dl,h1,h2,HZ⟩:∃dl:zT->Bool,dl x=true/\dl y=false/\Hid (∀(z:zT) (w:World),zC 229 #[.string z] w (zQ (.bool (dl z)) w)):=⟨fun z=>qeb z.data.toList,h1,h2,fun z w=>HD.out z w⟩;clear HD HX;go_enter func194,ntmps194
  go_wp2_with (first
   |(go_at_call 226;refine xR (HC.out _) ?_;rintro e w' ⟨rfl,rfl⟩)
   |(go_at_call 227;refine xR (Hb.out _) ?_;rintro e w' ⟨A,rfl,hA,⟨Hc,He⟩,hb⟩;have hS:=(qd4 w).next hb;obtain⟨⟨k0,k1,k2,k3,k4⟩,f0,f1,f2,f3,f4⟩:=hS.facts;have HS:=zH hS;clear hb hS)
   | (go_at_call 229;refine xR (HZ.out _ _) ?_;rintro e w'' ⟨rfl,rfl⟩;first | rw[h1] | rw[h2]))
  exact qgr (w0:=w) ⟨8,4,[],[],[]⟩ results194 rfl rfl HS.out rfl
 have ha:r=⟨8,0,[],x.data.toList,y.data.toList⟩:=by rw[hr,h1,h2];simp
 obtain⟨dl,h1,h2,HZ⟩:∃dl:zT->Bool,dl x=true/\dl y=true/\Hid (∀(z:zT) (w:World),zC 229 #[.string z] w (zQ (.bool (dl z)) w)):=⟨fun z=>qeb z.data.toList,h1,h2,fun z w=>HD.out z w⟩;clear hr HD HX;subst ha;have HV:Hid (#[Value.int .i64 8,zI 0,zS,.string x,.string y]=qnd ⟨8,0,[],x.data.toList,y.data.toList⟩):=rfl;go_enter func194,ntmps194
 go_wp2_with (first
   |(go_at_call 226;refine xR (HC.out _) ?_;rintro e w' ⟨rfl,rfl⟩)
   |(go_at_call 227;refine xR (Hb.out _) ?_;rintro e w' ⟨A,rfl,hA,⟨Hc,He⟩,hb⟩;have hS:=(qd4 w).next hb;obtain⟨⟨k0,k1,k2,k3,k4⟩,f0,f1,f2,f3,f4⟩:=hS.facts;have HS:=zH hS;clear hb hS)
   | (go_at_call 229;refine xR (HZ.out _ _) ?_;rintro e w'' ⟨rfl,rfl⟩;first | rw[h1] | rw[h2]))
 have hc:A≠w.heap.size:=by
  have hf:∀o:Obj,(w.alloc o).heap.size=w.heap.size+1:=fun o=>by unfold World.alloc;simp only[Array.size_push]
  rw[hf]at hA;omega
 clear hA;go_region
 go_wp2
 exact qp1 (w0:=w) (r:=⟨8,0,[],x.data.toList,y.data.toList⟩) results194 rfl rfl (by rw[<-HV.out];exact qx4 HS.out.blk _ _ _ _ _) (qoc HS.out.below (yg _) _ _ _ _ _).drew
theorem zh2(s:zT):(s.extract 1 s.size).data.toList=s.data.toList.drop 1:=by
 rw[Lib.extract_eq];show List.take _ _=_;exact yp (by simp)
theorem qr5(s:zT)(w:World)(hs:s.size≠0)(hl:s.size<=100000) :
  zC 194 #[.string s] w (zR (qeh (qdc s.data.toList)) w):=by
 have hx:=zh2 s;have ha:(s.extract 1 s.size).size<=s.size:=by simp
 have hI:(⟨(Lib.trimSuffix (s.data.toList.drop 1) [61]).toArray⟩:zT).size<=100000:=by
  show(Lib.trimSuffix (s.data.toList.drop 1) [61]).length<=_;have h3:s.data.toList.length=s.size:=by simp
  unfold Lib.trimSuffix;split<;>simp<;>omega
 have hw:=qya ⟨(Lib.trimSuffix (s.data.toList.drop 1) [61]).toArray⟩;refine qr4 s w ⟨(Lib.trimSuffix (s.data.toList.drop 1) [61]).toArray⟩ (Lib.hasSuffix (s.data.toList.drop 1) [61]) (Lib.goFieldsP qcm ⟨(Lib.trimSuffix (s.data.toList.drop 1) [61]).toArray⟩) _ hs (fun w=>?_) (fun w=>q1q _ w hI) ?_
 ·refine(strings_CutSuffix (s.extract 1 s.size) ⟨#[61]⟩ w (by omega)).mono ?_
  rintro e w' ⟨rfl,rfl⟩;rw[hx];exact⟨rfl,rfl⟩
 ·rw[q8b,<-hw]
theorem q0o(s:zT)(w:World)(hs:s.size<=100000)(h8:qay s.data.toList=8) :
  zC 149 #[.string s] w (zR (qeh (qba s.data.toList)) w):=by
 have ha:s.size≠0:=fun q=>by
  have:s.data.toList=[]:=by
   apply yC;simpa using q
  rw[this]at h8;exact absurd h8 (by decide)
 have HV:qba s.data.toList=qdc s.data.toList:=by unfold qba;rw[h8];rfl
 rw[HV];have HR:Hid (#[Value.int .i64 (qdc s.data.toList).kind,zI (qdc s.data.toList).slip,bs (qdc s.data.toList).name,bs (qdc s.data.toList).op,bs (qdc s.data.toList).cl]=qnd (qdc s.data.toList)):=rfl;have HN:=zH (fun w=>qr5 s w ha hs);have HK:=zH (fun w=>h8▸qgs s w);clear HV h8 ha hs;generalize qdc s.data.toList=r at HN HR |-;unfold qeh at HN;unfold bs at HN HR;generalize (r.kind:Int)=r0 at HN HR;generalize (r.slip:Int)=r1 at HN HR;generalize (⟨r.name.toArray⟩:zT)=r2 at HN HR;generalize (⟨r.op.toArray⟩:zT)=r3 at HN HR;generalize (⟨r.cl.toArray⟩:zT)=r4 at HN HR;go_enter func149,ntmps149
 go_wp2_with (first
   |(go_at_call 193;refine xR (HK.out _) ?_;rintro e w' ⟨rfl,rfl⟩)
   | (go_at_call 194;refine xR (HN.out _) ?_;rintro e w' ⟨rfl,hb⟩;have hS:=(qd4 w).next hb;obtain⟨⟨k0,k1,k2,k3,k4⟩,f0,f1,f2,f3,f4⟩:=hS.facts;have HS:=zH hS;clear hb hS))
 exact qgr (w0:=w) r results149 rfl rfl HS.out HR.out
theorem qjq(t:zU):qd0 t:=by
 intro L w hL hm hw;by_cases h8:qay L=8
 ·exact q0o ⟨L.toArray⟩ w (by rw[qb1];omega) h8
 ·exact q42 ⟨L.toArray⟩ w (by rw[qb1];omega) hw h8
end Go.Proofs.YtfkhljmiehdgmaaGreatDoor
