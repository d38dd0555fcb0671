/-
  For every text, all partials and data, every depth and every room (together of bulk at most 1048576) the statement Cut returns true, and its arguments read as before. Condition: the package-level tables that the row lists hold what their texts lay (tied by the card).
-/
import Derived.Test.YtfkhljmiehdgmaaGreatDoorCuBK
import Derived.Test.YtfkhljmiehdgmaaGreatDoorCuBW
import Derived.Test.YtfkhljmiehdgmaaGreatDoorCuBV
import Derived.Lib.ItoaLen
import Derived.Test.YtfkhljmiehdgmaaGreatDoorCuBU
set_option maxRecDepth 100000
set_option maxHeartbeats 40000000
namespace Go.Proofs.YtfkhljmiehdgmaaGreatDoor
open Go.RowKit Go.Proofs.Tryz Pl
theorem q92(K:Sk)(R:List Vt)(hK:SkOk K):∀k,EndC K R k
 |0=>by
   intro w ve vW E W n x p r J O y T D U X I V z Y Z hr;have:=y.few;omega
 |k+1=>zf5 K R hK k (q90 K R hK k (q92 K R hK k))
theorem qwg(K:Sk)(hK:SkOk K):∀k,q3y K k
 |0=>by
   intro w gw ve vS v E R r j off len x p F O T Y z y D U I V J X Z hk hr;omega
 |k+1=>q7a K hK k (fun R=>q92 K R hK _) (qwg K hK k)
theorem zaz(T:zT)(v:Value)(L:List (zT×zT))(w:World)(z:qk5 w v L)(y:∀p∈L,p.1.size<=1000000000) :
  zC 18 #[.string T,v] w fun e w'=>zdt w T L e w':=zek zay (fun K hK k=>qwg K hK k) T v L w z y
variable{D:List Dt}
theorem DsAt.up{B B':Nat}{w:World}{dv:Value}(h:DsAt B w dv D)(z:B<=B'):DsAt B' w dv D:=by
 obtain⟨ao,cap,I,J,O,T⟩:=h;refine⟨ao,cap,I,J,O,fun y=>?_⟩;obtain⟨b,o,k1,k2,k3⟩:=T y;refine⟨b,o,k1,by omega,fun k x U=>?_⟩;obtain⟨q1,q2,q3,iv,nv,q4,q5,q6,q7⟩:=k3 k x U;exact⟨q1,q2,q3,iv,nv,q4,q5,q6.up z,q7.up z⟩
theorem q2r(h:∀d∈D,(-9223372036854775808<=d.n/\d.n<=9223372036854775807)/\d.s.length<=1048576)(p:Pc):(qc7 (qbe D p)).length<=1048576:=by
 have y:∀d,d=Dt.null\/d∈D->(qc7 d).length<=1048576:=fun d hd=>by
  have z:(-9223372036854775808<=d.n/\d.n<=9223372036854775807)/\d.s.length<=1048576:=hd.elim (fun e=>by rw[e];decide) (h d);unfold qc7;split
  ·cases (d.n != 0)<;>decide
  split
  ·have:=Go.Lib.itoa_length_le d.n z.1.1 z.1.2
   omega
  split
  ·exact z.2
  ·exact yH _
 refine y _ ?_;cases p with
 |none=>exact .inl rfl
 |some k=>
   by_cases I:k<D.length
   ·right
    show D.getD k Dt.null∈D;rw[xx,yc I];exact List.getElem_mem I
   ·left
    show D.getD k Dt.null=_;rw[xx,yd (by omega)];rfl
theorem zgn(T:zT)(pv dv:Value)(L:List (zT×zT))(D:List Dt)(depth room:Int)(w:World)(X:KW w)(Y:qk5 w pv L)(Z:∀p∈L,p.1.size<=1048576)(hD:DsAt w.heap.size w dv D)(hn:∀d∈D,(-9223372036854775808<=d.n/\d.n<=9223372036854775807)/\d.s.length<=1048576)
  (hd:-9223372036854775808<=depth/\depth<=9223372036854775807) (hr:-9223372036854775808<=room/\room<=9223372036854775807) :
  zC 8 #[.string T,pv,dv,zI depth,zI room] w (zR (.bool true) w):=by
 have hp:∃ao n cap,pv=.slice ao n cap:=(let ⟨ao,cap,h,_⟩:=Y;⟨ao,_,cap,h⟩);have I:∃ao n cap,dv=.slice ao n cap:=(let ⟨ao,cap,h,_⟩:=hD;⟨ao,_,cap,h⟩);have on:∀ {w1 w2:World},zW w w1->zW w1 w2->zW w w2:=fun h1 h2=>h1.trans (h2.mono h1.size);have HS:=fun w1 hb=>(zbl w1 (X.kept hb)).mono fun ed w' h=>(⟨h.1,on hb h.2⟩:ed=.returned (.bool true)/\zW w w');have HW:=fun w1 hb=>(zaz T pv L w1 (Y.kept hb) (fun p hp=>by have:=Z p hp;omega)).mono fun ed w' h=>(⟨h.1.imp fun b q=>q.1,on hb h.2⟩:(∃b,ed=.returned (.bool b))/\zW w w');have HC:=fun w1 hb=>qrj qtw T pv L w1 (Y.kept hb) (X.kept hb).tabs (X.kept hb).ml (qjq _) (fun p _=>qjq _);by_cases hc:(qc5 T.data.toList (qau L)).2.code=0
 ·generalize hS:(qc5 T.data.toList (qau L)).1.2=S
  generalize hV:(qc5 T.data.toList (qau L)).1.1=V;have J:∀(d:Nat) rm,Ev.Small ⟨D,S,V,d,rm⟩ 28000000:=fun d rm=>⟨fun v p hp=>yh ((qqt _ _ hc ⟨D,S,V,d,rm⟩ hS.symm hV.symm).2.2.2 v p hp) (by decide),fun a p=>by
   have h1:=q9w a (qc7 (qbe D p));have h2:=q2r hn p;show (qgn a (qc7 (qbe D p))).length<=_;omega⟩
  obtain⟨pg,z⟩:∃pg:Nat->Int->Wt×Int,∀(d:Nat) rm,Ev.page ⟨D,S,V,d,rm⟩=pg d rm:=⟨_,fun _ _=>rfl⟩;refine zej T pv dv depth room w hd hr hp I HS HW (fun g w'=>∃gg vv,g=(zO gg 0)/\TplV w' gg vv (qc5 T.data.toList (qau L)).1) (.inr fun w1 hb=>(HC w1 hb).mono ?_) (fun d rm=>⟨(pg d rm).1.out.toArray⟩) (fun d rm=>if(pg d rm).2=0 then(pg d rm).1.holes.length else 0) (fun d rm=>(pg d rm).2) ?_ (fun d k _=>?_) (fun d _=>?_)
  ·rintro ed w' ⟨⟨p,h1,_,h3⟩,y⟩
   obtain⟨k1,k2,_,_⟩:=qqt _ _ hc ⟨[],_,_,0,0⟩ rfl rfl;obtain⟨g,vv,hq,hV⟩:=q7d (h3 hc) k2 k1;exact⟨⟨_,_,_,_,_,by rw[h1,hq];rfl,fun o=>⟨g,vv,rfl,hV.below (zB o)⟩⟩,on hb y⟩
  ·rintro _ d rm w1 hd O ⟨g,vv,rfl,hT⟩ hb
   have hE:=zec (X.kept hb) hc hT D d rm ((hD.below hb).up hb.size) (fun x hx=>(hn x hx).1) O (by omega) (fun p=>yh (q2r hn p) (by decide)) 28000000 (by decide) (by rw[hS,hV];exact J d rm);rw[hS,hV]at hE;refine(qss hE.1 hE.2 hT.1 _ (z d rm)).mono ?_;rintro ed w' ⟨U,h1,h2,h3,y⟩;refine⟨?_,⟨g,vv,rfl,hT.below y⟩,on hb y⟩;by_cases hz:(pg d rm).2=0
   ·obtain⟨ao,cap,hf⟩:=qaq (h3 hz)
    exact⟨ao,cap,by rw[h1,hf,if_pos hz];rfl,fun q=>absurd hz q⟩
   ·exact⟨none,0,by rw[h1,h2 hz,if_neg hz];rfl,fun _=>rfl⟩
  ·have c:=zb2 ⟨D,S,V,d,0⟩ k
   rw[show Ev.page (Ev.roomy ⟨D,S,V,d,0⟩ (-1))=pg d (-1)from z d (-1),show Ev.page (Ev.roomy ⟨D,S,V,d,0⟩ k)=pg d k from z d k]at c;simp only[qb1];refine⟨fun h=>?_,fun h=>⟨(c.2 h).1,?_⟩⟩
   ·rw[c.1 h]
    exact⟨rfl,rfl,rfl⟩
   ·rw[qui,(c.2 h).2]
  ·have h:=qup (J d (-1)) 5002 0 0 (Ev.parts ⟨D,S,V,d,-1⟩ 0).length 0 [some 0] ⟨[],[],0⟩ ⟨by decide,yH _,yH _,.inl (by show (-1:Int)<0;decide)⟩
   rw[show Ev.run ⟨D,S,V,d,-1⟩ 5002 0 0 (Ev.parts ⟨D,S,V,d,-1⟩ 0).length 0 [some 0] ⟨[],[],0⟩=pg d (-1)from z d (-1)]at h;rw[qb1];exact yh h.out (yh (xE _ h.steps) (by decide))
 ·refine zej T pv dv depth room w hd hr hp I HS HW (fun _ _=>False) (.inl fun w1 hb=>?_) (fun _ _=>⟨#[]⟩) (fun _ _=>0) (fun _ _=>0) (fun _ _ _ _ _ _ h=>h.elim) (fun _ k _=>⟨fun _=>⟨rfl,rfl,rfl⟩,fun h=>absurd h (yZ k)⟩) (fun _ _=>yH _)
  refine(HC w1 hb).mono ?_;rintro ed w' ⟨⟨p,h1,h2,_⟩,y⟩;exact⟨⟨_,_,_,_,by rw[h1,h2 hc];rfl⟩,on hb y⟩
namespace fnCut
open Go.ChangeShapes Go.WideShapes Go.ChangeAt Go.WideMaps Go.WideElems
open Go.ChangeMaps (setBlock shut_map_nil open_string shut_string keptBut_setBlock frozen?_setBlock heap_setBlock_same)
theorem zdm{H:Type}{x y a b:DataW H}{s:zT}{gs:List (DataW H)}(z:Rows.uptoSmall H ([.lit (.string s.data.toList),x,y,a,b]++gs)=true):Rows.uptoBulk x<=1048576/\Rows.uptoBulk y<=1048576:=by
 have h:Rows.uptoBulkAll ([DataW.lit (H:=H) (.string s.data.toList),x,y,a,b]++gs)<=1048576:=of_decide_eq_true z;simp only[xB,xC,Rows.uptoBulkAll,Rows.uptoBulk]at h;omega
theorem contract(H:Type)(enc:TypeId×Value->H)(W:World)(base:Nat)(args:Array Value)(ds gs:List (DataW H))(before:List MemPlace)
  (z:∀(j:Nat) t v,f8.params[j]?=some t->args[j]?=some v->Value.okWide prog W .any base t v)
  (hW:DataW.Whole enc prog f8.params.toList Rows.cutSpec.vars false W args.toList ds gs before) (hk:Rows.uptoSmall H (ds++gs)=true) (hL:laidMetH prog Rows.cutRow.laid W) (X:W.ShapedOpen prog) :
  zC 8 args W fun e W'=>∃v,e=.returned v/\Rows.cutSpec.post enc prog f8 false true false false W args v W':=by
 have I:=hW;obtain⟨p,q,O,hV,rfl,He,hf⟩:=hW;have hA:DataW.TrodAll enc prog W 0 (fun _=>true) true f8.params.toList args.toList ds p:=O;rw[params8]at hA z;obtain⟨v0,vs0,d0,ds0,p0,q0,T,rfl,rfl,h0,r0⟩:=trodAll_cons hA;obtain⟨v1,vs1,d1,ds1,p1,q1,rfl,rfl,rfl,h1,r1⟩:=trodAll_cons r0;obtain⟨v2,vs2,d2,ds2,p2,q2,rfl,rfl,rfl,h2,r2⟩:=trodAll_cons r1;obtain⟨v3,vs3,d3,ds3,p3,q3,rfl,rfl,rfl,h3,r3⟩:=trodAll_cons r2;obtain⟨v4,vs4,d4,ds4,p4,q4,rfl,rfl,rfl,h4,r4⟩:=trodAll_cons r3;obtain⟨rfl,rfl,rfl⟩:=trodAll_nil r4;obtain rfl:args=#[v0,v1,v2,v3,v4]:=by cases args;simp_all
 obtain⟨rfl,rfl⟩:=trodVars_none hV;obtain⟨ao,ln,cp,rfl⟩:=okWide_slice (P:=prog) (e:=38) (by kernel_rfl) (z 1 22 _ rfl rfl);obtain⟨ao2,ln2,cp2,rfl⟩:=okWide_slice (P:=prog) (e:=67) (by kernel_rfl) (z 2 44 _ rfl rfl);obtain⟨s,rfl,rfl,rfl,hs⟩:=open_string underlying9 (z 0 9 v0 rfl rfl) h0;obtain⟨z3,rfl,rfl,rfl,w3⟩:=open_int underlying3 (z 3 3 _ rfl rfl) h3;obtain⟨z4,rfl,rfl,rfl,w4⟩:=open_int underlying3 (z 4 3 _ rfl rfl) h4;have Y:=h1;have Z:=h2;obtain⟨_,ha⟩:=h1;obtain⟨_,Ha⟩:=h2;obtain⟨L,hR,Hb⟩:=quw ha;obtain⟨D,hD,U⟩:=q8m Ha;clear O;simp only[yw]at I;have V:=zdm hk;refine(zgn s _ _ L D z3 z4 W (zh4 hL X) hR (fun y hy=>yh (Hb y hy) V.1) hD (fun y hy=>⟨(U y hy).1,yh (U y hy).2 V.2⟩) (wf64 w3) (wf64 w4)).mono fun e W' ⟨he,hb⟩=>?_;subst he
 have hc:∀sp':Nat->Bool,(∀x∈p1,sp' x.block=true)->DataW.Trod enc prog W' 0 sp' true 22 (.slice ao ln cp) d1 p1:=fun sp' J=>
  Go.WideElems.Trod_stays (P:=prog) (by kernel_rfl) (by kernel_rfl) (by decide +kernel) Y (fun x hx=>hb.same (I.lt x (by simp[hx]))) J
 have Hc:∀sp':Nat->Bool,(∀x∈p2,sp' x.block=true)->DataW.Trod enc prog W' 0 sp' true 44 (.slice ao2 ln2 cp2) d2 p2:=fun sp' J=>
  Go.WideElems.Trod_stays (P:=prog) (by kernel_rfl) (by kernel_rfl) (by decide +kernel) Z (fun x hx=>hb.same (I.lt x (by simp[hx]))) J
 refine⟨_,rfl,_,_,_,[],[]++(p1++(p2++([]++([]++[])))),[],I,?_,?_,?_,hb.frame _,fun h=>by cases h⟩
 ·exact trodAll_cons_mk (shut_bool underlying4 _) trodAll_mk0
 ·exact trodAll_cons_mk (shut_string underlying9 hs) (trodAll_cons_mk (hc _ (fun x hx=>by simpa using I.lt x (by simp[hx]))) (trodAll_cons_mk (Hc _ (fun x hx=>by simpa using I.lt x (by simp[hx]))) (trodAll_cons_mk (shut_int underlying3 w3) (trodAll_cons_mk (shut_int underlying3 w4) trodAll_mk0))))
 ·exact rfl
end fnCut
end Go.Proofs.YtfkhljmiehdgmaaGreatDoor
