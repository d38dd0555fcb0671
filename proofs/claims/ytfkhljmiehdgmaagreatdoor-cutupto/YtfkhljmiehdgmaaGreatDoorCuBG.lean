/-
  Steps of the proof.
-/
import Derived.Deep.CutRange
import Derived.Test.YtfkhljmiehdgmaaGreatDoorCuBF
import Derived.Test.YtfkhljmiehdgmaaGreatDoorCuAY
import Derived.Test.YtfkhljmiehdgmaaGreatDoorCuBB
import Derived.Lib.CutLaws
import Derived.Test.YtfkhljmiehdgmaaGreatDoorCuAN
set_option maxRecDepth 100000
set_option maxHeartbeats 40000000
namespace Go.Proofs.YtfkhljmiehdgmaaGreatDoor
open Go.RowKit Go.Proofs.Tryz Pl
variable{w wr:World}{a:Act}
def qlf(w:World)(t:zU)(e:Ending)(w':World):Prop:=
 (∃v,e=.returned (.tuple #[v,.agg #[zI (qam t).1.1,zI (qam t).1.2]])/\((qam t).1.1=0->∃L,RmsOf L (qam t).2/\w'.ownsRow w.heap.size 136 6 v L.length (qd8 L)))/\zW w w'
theorem Pl.addText_keeps(o c t:zU)(parts:List Pt)(op:List Nat)(a z:Nat):(⟨o,c,parts,op⟩:Ct).addText t a z=⟨o,c,((⟨o,c,parts,op⟩:Ct).addText t a z).parts,op⟩:=by
 unfold Ct.addText;split<;>rfl
theorem qq2:(prog.info? 130).map (·.size)=some 2:=by kernel_rfl
theorem Pl.trR_idem(cs l:zU):Go.Lib.trimRightS (Go.Lib.trimRightS l cs) cs=Go.Lib.trimRightS l cs:=by
 have:∀m:zU,(m.dropWhile (cs.contains ·)).dropWhile (cs.contains ·)=m.dropWhile (cs.contains ·):=by
  intro m
  induction m with
  |nil=>rfl
  |cons x m ih=>
    by_cases q:cs.contains x=true
    ·rw[xw q];exact ih
    ·rw[xu q,xu q]
 unfold Go.Lib.trimRightS;rw[List.reverse_reverse,this]
theorem qe4{P:Program}{fn:Func}{u p:Tmp}{ty:TypeId}(h:fn.results=#[.tmp u,.cell p ty])(tmps:Array Value)(w:World)(g:Nat)(cs:Array Value)(d:TypeDesc)
  (y:tmps.getD p undef=zP g) (z:∀j v,cs.toList[j]?=some v->w.cell? (zO g j)=some v) (D:P.underlying ty=some d) (hd:aggD d=true) (I:(P.info? ty).map (·.size)=some cs.size) :
  (results fn tmps).run P w=.ok (.tuple #[tmps.getD u undef,.agg cs]) w:=by
 have J:=qbb (P:=P) w g ty cs d z D (by cases d<;>first|rfl|cases hd) I
 rw[yY]at y;simp only[results,h];simp[y,asAddr,J]
theorem quv{t:zU}{k p:Nat}(y:wr.heap[w.heap.size]?=zK #[zI 0,zI 0] 130)(D:zW w wr)(I:qam t=((k,p),[]))(J:k≠0)
  (O:a.tmps.getD 3 undef=zP w.heap.size) (T:a.tmps.getD 2 undef=zN) (z:a.defers=[]) :
  bodyPost prog f53 (qlf w t) .ret a ((wr.setCell (zO w.heap.size 0) (zI k)).setCell (zO w.heap.size 1) (zI p)):=by
 have U:=xG wr w.heap.size 0 _ _ (zI (k:Int)) y;have V:=xG _ w.heap.size 1 _ _ (zI (p:Int)) U;refine bodyPost_ret (qe4 (cs:=#[zI k,zI p]) results53 a.tmps _ w.heap.size _ O (qaa V) underlying130 rfl qq2) z ?_;rw[T];refine⟨⟨_,by rw[I],fun h=>absurd (by rw[I]at h;exact h) J⟩,(D.setCell (yg _) _).setCell (yg _) _⟩
theorem zg6{t:zU}{v vs:Value}{L:List Rm}{op:List Nat}{parts:List Pt}(D:PaAt w wr L op v vs)(I:qam t=((0,0),parts))(J:RmsOf L parts)
  (O:a.tmps.getD 3 undef=zP w.heap.size) (T:a.tmps.getD 2 undef=v) (z:a.defers=[]) :
  bodyPost prog f53 (qlf w t) .ret a ((wr.setCell (zO w.heap.size 0) (zI 0)).setCell (zO w.heap.size 1) (zI 0)):=by
 have U:=xG wr w.heap.size 0 _ _ (zI 0) D.res;have V:=xG _ w.heap.size 1 _ _ (zI 0) U;refine bodyPost_ret (qe4 (cs:=#[zI 0,zI 0]) results53 a.tmps _ w.heap.size _ O (qaa V) underlying130 rfl qq2) z ?_;rw[T];have y:v.ownBlock≠some w.heap.size:=fun e=>by
  obtain⟨cur,X⟩:=qac D.out _ e;exact qae D.res X qgo rfl
 exact⟨⟨_,by rw[I];rfl,fun _=>⟨L,by rw[I];exact J,ownsRow_setCell_other (ownsRow_setCell_other D.out y _) y _⟩⟩,(D.below.setCell (yg _) _).setCell (yg _) _⟩
theorem q3c:(prog.info? 136).map (fun i=>(i.zero,i.size,i.bytes))=some (some (.agg #[zI 0,zI 0,zS,zN,.bool false,zI 0]),6,72):=by kernel_rfl
def qsq(a:Nat)(x:zU):Rm:=⟨0,a,x,zN,false,0⟩
theorem qqe(i a:Nat)(x:zU):RmOf i (qsq a x) ⟨1,a,x,0⟩:=⟨rfl,rfl,rfl,rfl,by show 0=_;rw[if_neg (by simp)],none,0,0,rfl⟩
theorem zfo(s:zT)(z:Int)(a:Nat)(w:World)(y:z=a)(D:s.size<=1000000)(I:a<=s.size) :
  zC 85 #[.string s,zI z] w (zQ (zI (Pl.lnT s.data.toList a)) w):=by
 subst y;exact q5r s a w D I
theorem q3s(s:zT)(z:Int)(a b:Nat)(w:World)(D:z=a)(I:s.size<=1000000)(J:b<=s.size)(y:a<=b) :
  zC 86 #[.string s,zI z,zI b] w (zQ (.bool (Pl.emp s.data.toList a b)) w):=by
 subst D;exact q1z s a b w I J y
theorem qj7(s x:zT)(z:Int)(k:Nat)(w:World)(y:z=k)(D:s.size<=1000000)(I:x.size<=1000000)(J:k<=s.size) :
  zC 81 #[.string s,.string x,zI z] w (zQ (zI (Pl.qdr s.data.toList x.data.toList k)) w):=by
 subst y;exact qtl s x k w D I J
namespace Pl
structure PkOk(I:zU)(b:UInt8)(sil:Bool)(K:Int)(tx:zU)(tn:Bool):Prop where
 one:(K==1)=decide ((qba I).kind=2)
 sl:sil=true->K=0/\tx=[]/\tn=false/\((b=33/\qba I=⟨7,0,[],[],[]⟩)\/(b=61/\qba I=qdc I))
 op:sil=false->b≠33/\b≠61/\pcOk (qcg b) I=true/\K=qfw (qcg b)/\tx=qjs (qcg b) I/\tn=decide (qcg b=1)
theorem q5q{t:zU}{o z:Nat}{k:Nat}{K:Int}(y:(K==1)=decide (k=2))(D:o<=t.length)(I:z<=t.length){l1 l2:Nat}
  (J:l1=if(!(K==1) && (emp t (lnF t o) o && emp t z (lnT t z)))=true then lnF t o else o)
  (O:l2=if(!(K==1) && (emp t (lnF t o) o && emp t z (lnT t z)))=true then(if lnT t z<t.length then lnT t z+1 else lnT t z)else z) :
  (if k≠2 then qel t o z else(o,z))=(l1,l2):=by
 rw[y]at J O;by_cases q:k=2
 ·rw[if_neg (by omega),J,O,yV q];rfl
 ·rw[if_pos q,q83 t o z D I,J,O,yx q]
  cases T:(emp t (lnF t o) o && emp t z (lnT t z))<;>rfl
theorem zff{I:zU}{b:UInt8}(J:I=b::I.drop 1)(O:Go.Lib.trimRightS I qag=I)(D:b=33\/b=61\/pcOk (qcg b) I=true):∃sil K tx tn,PkOk I b sil K tx tn/\sil=(b==33 || b==61):=by
 by_cases y:b=33
 ·have e:qba I=⟨7,0,[],[],[]⟩:=by rw[J,y];rfl
  refine⟨true,0,[],false,⟨by rw[e];rfl,fun _=>⟨rfl,rfl,rfl,.inl ⟨y,e⟩⟩,(fun h=>nomatch h)⟩,by rw[y];rfl⟩
 by_cases z:b=61
 ·have e:qba I=qdc I:=by rw[J,z];rfl
  have e2:(qdc I).kind=8:=by
   unfold qdc
   repeat' split
   all_goals rfl
  refine⟨true,0,[],false,⟨by rw[e,e2];rfl,fun _=>⟨rfl,rfl,rfl,.inr ⟨z,e⟩⟩,(fun h=>nomatch h)⟩,by rw[z];rfl⟩
 have T:=qlr b (I.drop 1) y z (by rw[<-J];exact O);rw[<-J]at T;refine⟨false,qfw (qcg b),qjs (qcg b) I,decide (qcg b=1),⟨?_,(fun h=>nomatch h),fun _=>⟨y,z,(D.resolve_left y).resolve_left z,rfl,rfl,rfl⟩⟩,?_⟩
 ·rw[<-T.1]
  by_cases q:(qba I).kind=2
  ·rw[yV q,q];rfl
  ·rw[yx q,yf];intro e;rw[refKind_one]at e;exact q e
 ·rw[yf.2 y,yf.2 z];rfl
end Pl
variable{w0 w:World}{L:List Rm}{op:List Nat}{vo vs:Value}{i o k n cap:Nat}{K:Int}{tn:Bool}{ao:Option Addr}
theorem PaAt.cell(h:PaAt w0 w L op vo vs){g:Nat}{cs:Array Value}{fz:Nat×Nat}(y:w.heap[g]?=some (.cells cs 136 fz))(z:vo.ownBlock≠some g)(D:w0.heap.size<=g)(j:Nat)(v:Value):PaAt w0 (w.setCell (zO g j) v) L op vo vs:=by
 refine⟨(xK _ _ _ _ (qae h.res y qgo)).trans h.res,ownsRow_setCell_other h.out z _,qab h.sc fun k I=>?_,h.below.setCell D _⟩;obtain⟨cur,J⟩:=qac h.sc k I;exact xK _ _ _ _ (qae J y qf9.symm)
theorem PaAt.six(h:PaAt w0 w L op vo vs){g:Nat}{kd:Int}{a:Nat}{tx:zT}{pv:Value}{tn:Bool}{en:Int}(y:w.heap[g]?=zK (qcb kd a tx pv tn en) 136)(z:vo.ownBlock≠some g)(D:w0.heap.size<=g)(K:Int)(o:Nat)(t:zT)(p:Value)(b:Bool)(e:Int) :
  PaAt w0 ((((((w.setCell (zO g 0) (zI K)).setCell (zO g 1) (zI o)).setCell (zO g 2) (.string t)).setCell (zO g 3) p).setCell (zO g 4) (.bool b)).setCell (zO g 5) (zI e)) L op vo vs /\
  ((((((w.setCell (zO g 0) (zI K)).setCell (zO g 1) (zI o)).setCell (zO g 2) (.string t)).setCell (zO g 3) p).setCell (zO g 4) (.bool b)).setCell (zO g 5) (zI e)).heap[g]?=zK (qcb K o t p b e) 136:=by
 have b1:=xG _ g 0 _ _ (zI K) y;have b2:=xG _ g 1 _ _ (zI (o:Int)) b1;have b3:=xG _ g 2 _ _ (.string t) b2;have b4:=xG _ g 3 _ _ p b3;have b5:=xG _ g 4 _ _ (.bool b) b4;exact⟨(((((h.cell y z D 0 _).cell b1 z D 1 _).cell b2 z D 2 _).cell b3 z D 3 _).cell b4 z D 4 _).cell b5 z D 5 _,xG _ g 5 _ _ _ b5⟩
theorem q4z{tx:zU}(y:Pl.qb3 k=K)(z:decide (k=4)=tn)(D:K≠2):RmOf i ⟨K,o,tx,.slice ao n cap,tn,0⟩ ⟨k,o,tx,0⟩:=
 ⟨y.symm,rfl,rfl,z.symm,by show 0=_;rw[if_neg (fun h=>D (by rw[<-y];rcases h with h|h<;>rw[show k=_ from h]<;>rfl))],_,_,_,rfl⟩
theorem q77{tx:zU}(y:Pl.qb3 k=K)(z:decide (k=4)=tn):RmOf i ⟨K,o,tx,.slice ao n cap,tn,0⟩ ⟨k,o,tx,0⟩:=
 ⟨y.symm,rfl,rfl,z.symm,by show 0=if _ then 0 - i else 0;rw[Nat.zero_sub];split<;>rfl,_,_,_,rfl⟩
theorem q40{m:Nat}{tx:zU}(y:Pl.qb3 k=K)(z:decide (k=4)=tn)(D:K=3):RmOf i ⟨K,o,tx,.slice ao n cap,tn,0⟩ ⟨5,o,tx,m⟩:=by
 refine⟨D,rfl,rfl,?_,rfl,_,_,_,rfl⟩;rw[<-z];exact yx (fun e=>by rw[e,D]at y;exact absurd y (by decide))
theorem PaAt.drew(h:PaAt w0 w L op vo vs):PaAt w0 w.drew L op vo vs:=⟨h.res,qab h.out fun _ _=>rfl,qab h.sc fun _ _=>rfl,h.below.drew⟩
theorem q70(L:List Rm)(m n:Nat):(qlp L m n).length=L.length:=by unfold qlp;rw[List.length_modify]
theorem qxa{B g:Nat}{e:TypeId}{xs:List Value}(h:w.ownsRow B e k (zF g n cap) n xs):n<=cap:=by
 rcases h.2 with⟨y,_⟩|⟨g',cap',cur,z,_,_,D,_⟩
 ·cases y
 ·injection z with _ _ e3
  omega
theorem PaAt.apart{g7:Nat}(h:PaAt w0 w L op (zF g7 L.length cap) vs){g:Nat}{K:Int}{a:Nat}{tx:zT}{pv:Value}{tn:Bool}{en:Int}{ty:TypeId}{fz:Nat×Nat}(y:w.heap[g]?=some (.cells (qcb K a tx pv tn en) ty fz)){m:Nat}{r:Rm}(z:L[m]?=some r)(D:r.kd=2)(hK:K=3):g≠g7:=by
 rintro rfl;have I:=(yb.1 z).1;have c1:w.cell? (zO g (m*6+0))=some (zI r.kd):=by
  rw[World.ownsRow.cellAt h.out (m*6+0) (yi (by omega:m*6+0<(m+1)*6) (xE 6 I))];exact qd5 _ m r z 0 _ rfl
 have c2:w.cell? (zO g (m*6+0))=(qcb K a tx pv tn en)[m*6+0]?:=by unfold World.cell?;rw[y];rfl
 rw[c2]at c1;cases m with
 |zero=>
   have c3:(qcb K a tx pv tn en)[0*6+0]?=some (zI K):=rfl;rw[c3]at c1;injection c1 with c1;injection c1 with _ c1;omega
 |succ m=>
   rw[Array.getElem?_eq_none (by show 6<=_;omega)]at c1;cases c1
theorem behC(z:qhp)(S:List Src)(D:SrcsOk S):∀k,BehC S k:=by
 intro k
 induction k with
 |zero=>
   intro w B F vv s n x h I J;have:=I.few;omega
 |succ k ih=>
   intro w B F vv s n x h I J O T U;have V:B<=w.heap.size:=by
    have X:=h.le.1;have Y:=(zL h.blk);omega
   unfold behV;by_cases Z:qaj S n=0
   ·rw[if_pos Z]
    exact qv4 S D w B F vv s n x h T V Z
   rw[if_neg Z];cases hy:qa9 s.ends (qaj S n,x)with
   |some y=>exact qza S D w B F vv s n x h I O T V U Z y hy
   |none=>
     simp only;by_cases hf:s.ends.length=256
     ·rw[if_pos hf]
      exact q2d S D w B F vv s n x h I O T V U Z hy hf
     ·rw[if_neg hf]
      exact q6q z S D k ih w B F vv s n x h I O T V U Z hy J hf _ rfl
variable{w w':World}{g pn pcap k:Nat}{pa:Option Addr}
theorem qrf(l:zU):(Lib.cut l [46]).2.1.length<=l.length/\((Lib.cut l [46]).2.2=true->(Lib.cut l [46]).2.1.length+1<=l.length):=by
 unfold Lib.cut;split
 ·rename_i h
  have y:=Lib.index_room l [46] (by omega);simp only[yK,yQ]at y;refine⟨by rw[yM];omega,fun _=>?_⟩;simp only[yM,yK,yQ];omega
 ·exact⟨yH _,fun h=>by cases h⟩
theorem zc0(dv v:Value)(D:List Dt)(K:List Pc)(B:Nat)(w:World)(V:DsAt B w dv D)(hK:qzm w dv v K)(I:K≠[]) :
  zC 175 #[v,.string ⟨#[46]⟩] w (zR (qe0 dv ((K.head?).getD none)) w):=by
 obtain⟨so,cap,rfl,X,Y⟩:=hK;obtain⟨b,rfl,T,y⟩:=Y I;obtain⟨p,l,rfl⟩:∃p l,K=p::l:=by
  cases K with
  |nil=>exact absurd rfl I
  |cons p l=>exact⟨p,l,rfl⟩
 obtain⟨d0,d1⟩:=y l.length p (by simp);have J:∀o,zW w (w.alloc o):=fun o=>zB o;obtain⟨pa,pn,pcap,O⟩:=qgu V p;rw[O]at d0;have e0:=fun o=>((J o).cell (p:=zO b (l.length*2)) T).trans d0;have e1:=fun o=>((J o).cell (p:=zO b (l.length*2+1)) T).trans d1;have Z:Hid (qe0 dv (((p::l).head?).getD none)=.agg #[.slice pa pn pcap,zI (pcI p)]):=by
  show qe0 dv p=_;rw[qdk,O]
 have z:(p::l).length=l.length+1:=rfl;rw[Z.out];rw[z];unfold maxLen at X;have hn:(l.length:Int)+1<=9223372036854775807:=by rw[z]at X;omega
 have U:((l.length+1:Nat):Int)=(l.length:Int)+1:=by omega
 have hs:IntKind.i64.wrap ((l.length:Int)+1 - 1)=(l.length:Int):=by rw[IntKind.wrap_i64];omega
 have hq:(l.length:Int)<(l.length:Int)+1:=by omega
 clear y Y X z d0 d1 J O I;generalize l.length=m at *;go_enter func175,ntmps175
 go_wp2
 exact qlt (g:=w.heap.size) results175 rfl rfl (xF w _) rfl ⟨rfl,zB _⟩
structure FpAt(w w':World)(g:Nat)(pa:Option Addr)(pn pcap k:Nat):Prop where
 pr:PrAt w w'
 blk:w'.heap[g]?=zK #[.slice pa pn pcap,zI k] 147
 gt:w.heap.size<g
theorem FpAt.next{w1:World}(h:FpAt w w1 g pa pn pcap k)(y:zW w1 w'):FpAt w w' g pa pn pcap k:=
 ⟨h.pr.next y,(y.block _ (zL h.blk)).trans h.blk,h.gt⟩
theorem FpAt.drewN(h:FpAt w w' g pa pn pcap k)(n:Nat):FpAt w (w'.drewN n) g pa pn pcap k:=⟨⟨h.pr.res,qat h.pr.below n⟩,h.blk,h.gt⟩
theorem FpAt.set(h:FpAt w w' g pa pn pcap k)(qa:Option Addr)(qn qcap q:Nat):FpAt w ((w'.setCell (zO g 0) (.slice qa qn qcap)).setCell (zO g 1) (zI q)) g qa qn qcap q:=by
 have y:w.heap.size≠g:=Nat.ne_of_lt h.gt;refine⟨⟨?_,(h.pr.below.setCell (p:=zO g 0) (yj h.gt) _).setCell (p:=zO g 1) (yj h.gt) _⟩,xG _ _ _ _ _ _ (xG _ _ _ _ _ _ h.blk),h.gt⟩;rw[xK _ _ _ _ y,xK _ _ _ _ y];exact h.pr.res
theorem FpAt.facts(h:FpAt w w' g pa pn pcap k):(w'.cell? (zO g 0)=some (.slice pa pn pcap)/\w'.cell? (zO g 1)=some (zI k))/\w'.frozen? (zO g 0)=false/\w'.frozen? (zO g 1)=false:=by
 have c:=qaa h.blk;refine⟨⟨c 0 _ rfl,c 1 _ rfl⟩,?_⟩;simp[World.frozen?,h.blk]
def reM:Value->Value->Nat
 |.string s,.bool true=>s.size+1
 |_,_=>0
theorem q9g(D:List Dt)(f:Nat)(p:Pc)(rest:zU):qq7 D f p rest false=p:=by cases f<;>rfl
theorem q1o(D:List Dt)(f:Nat)(p:Pc)(rest:zU):qq7 D (f+1) p rest true=qq7 D f ((qo1 D p (Lib.cut rest [46]).1).getD none) (Lib.cut rest [46]).2.1 (Lib.cut rest [46]).2.2:=rfl
theorem q58(dv v:Value)(D:List Dt)(K:List Pc)(name:zT)(B:Nat)(w:World)(hB:B<=w.heap.size)(hD:DsAt B w dv D)(hK:qzm w dv v K)(hm:qa3 w)(hs:name.size<=100000)(V:name.data.toList≠[46]) :
  zC 175 #[v,.string name] w (zR (qe0 dv (qe3 D K name.data.toList)) w):=by
 have hq:(name.toList==[46])=false:=by
  rw[yf,ByteArray.toList_eq];exact V
 obtain⟨R,HR⟩:∃R,Hid (qe3 D K name.data.toList=R):=⟨_,rfl⟩;rw[HR.out];have I:Hid (qq7 D (name.data.toList.length+1) (qh6 D (Lib.cut name.data.toList [46]).1 K) (Lib.cut name.data.toList [46]).2.1 (Lib.cut name.data.toList [46]).2.2=R):=by
  show _=_;rw[<-HR.out];unfold qe3;rw[if_neg V]
 have y:=qrf name.data.toList;have HC:Hid (∀(s:zT) (w':World),s.size<=100000->zW w w'->zC 146 #[.string s,.string ⟨#[46]⟩] w' fun e w2=>e=.returned (.tuple #[.string ⟨(Lib.cut s.data.toList [46]).1.toArray⟩,.string ⟨(Lib.cut s.data.toList [46]).2.1.toArray⟩,.bool (Lib.cut s.data.toList [46]).2.2])/\∃n,w2=w'.drewN n):=fun s w' hs hb=>by
  obtain⟨m,hc⟩:=hm.below hb;exact strings_Cut s ⟨#[46]⟩ m w' (by omega) hc
 have ha:Hid (∀(s:zT) (w':World),zW w w'->zC 213 #[v,.string s] w' fun e w2=>e=.returned (qe0 dv (qh6 D s.data.toList K))/\zW w' w2):=fun s w' hb=>qz2 dv v D K s B w' (yh hB hb.size) (hD.below (hb.mono hB)) (hK.below (yg _) hb);have Hc:Hid (∀(p:Pc) (s:zT) (w':World),zW w w'->zC 214 #[qe0 dv p,.string s] w' fun e w2=>e=.returned (qtf dv (qo1 D p s.data.toList))/\zW w' w2):=fun p s w' hb=>qyb dv D p s B w' (yh hB hb.size) (hD.below (hb.mono hB));have HA:=zH (qgu hD);obtain⟨so,cap,rfl,_⟩:=hK;generalize hcut:Lib.cut name.data.toList [46]=c0 at I y;obtain⟨wd,rest,more⟩:=c0;simp only at I y;obtain⟨p0,X⟩:∃p0,qh6 D wd K=p0:=⟨_,rfl⟩;rw[X]at I;obtain⟨qa,qn,qcap,Y⟩:=HA.out p0;have Ha:Hid (∀o,zC 146 #[.string name,.string ⟨#[46]⟩] (w.alloc o) fun e w2=>e=.returned (.tuple #[.string ⟨wd.toArray⟩,.string ⟨rest.toArray⟩,.bool more])/\∃n,w2=(w.alloc o).drewN n):=fun o=>by
  have:=HC.out name (w.alloc o) hs (zB o);rw[hcut]at this;exact this
 have Hb:Hid (∀w',zW w w'->zC 213 #[.slice so K.length cap,.string ⟨wd.toArray⟩] w' fun e w2=>e=.returned (.agg #[.slice qa qn qcap,zI (pcI p0)])/\zW w' w2):=fun w' hb=>by
  have:=ha.out ⟨wd.toArray⟩ w' hb;have e:qh6 D (ByteArray.mk wd.toArray).data.toList K=p0:=X;rw[e,qdk,Y]at this;exact this
 have Hi:name.data.toList.length=name.size:=by simp
 have z:more=true->rest.length+1<=name.data.toList.length+1:=fun h=>by have:=y.2 h;omega
 have O:rest.length<=100000:=by have:=y.1;omega
 clear V hm hD ha hcut X HR y;generalize name.data.toList.length+1=fu at I z;go_enter func175,ntmps175
 go_wp2_with (first
  |(go_at_call 146;refine xQ (Ha.out _) ?_;rintro e w' ⟨rfl,n,rfl⟩)
  | (go_at_call 213;refine xQ (Hb.out _ (qat (zB _) n)) ?_;rintro e w1 ⟨rfl,hb⟩))
 have hF:FpAt w (w1.alloc (.cells #[.slice qa qn qcap,zI (pcI p0)] 147)) w1.heap.size qa qn qcap (pcI p0):=by
  have h0:PrAt w ((w.alloc (.cells #[zN,zI 0] 147)).drewN n):=⟨(qut w).res,qat (qut w).below n⟩;have h1:=h0.next hb;exact⟨h1.next (zB _),xF w1 _,h1.lt⟩
 have HF:=zH hF;clear hF hb Ha Hb;generalize w1.alloc _=W at HF |-;generalize w1.heap.size=g at HF |-;go_loopw [5,6,7] (fun a b c wr=>∃(f:Nat) (p:Pc) (wd rest:zU) (more:Bool) (pa:Option Addr) (pn pcap:Nat),a=.string ⟨wd.toArray⟩/\b=.string ⟨rest.toArray⟩/\c=.bool more/\rest.length<=100000/\(more=true->rest.length+1<=f)/\Hid (qq7 D f p rest more=R)/\Hid (pcA dv p=.slice pa pn pcap)/\Hid (FpAt w wr g pa pn pcap (pcI p))) (fun _ b c _=>reM b c)
 case atStart=>exact⟨fu,p0,wd,rest,more,qa,qn,qcap,rfl,rfl,rfl,O,z,I,Y,HF.out⟩
 case round=>
  clear HF I z O Y;obtain⟨f,p,wd,rest,more,pa,pn,pcap,rfl,rfl,rfl,O,T,HG,HP,HF⟩:=hrel;obtain⟨⟨k0,k1⟩,f0,f1⟩:=HF.out.facts;cases more with
  |false=>
    have HE:Hid (qe0 dv R=.agg #[.slice pa pn pcap,zI (pcI p)]):=by
     show _=_;rw[<-HG.out,q9g,qdk,HP.out]
    obtain⟨⟨r0,r1⟩,g0,g1⟩:=HF.out.pr.facts;clear HG T;go_wp2
    rw[HE.out];exact qlt (g:=w.heap.size) results175 rfl rfl (xG _ _ _ _ _ _ (xG _ _ _ _ _ _ HF.out.pr.res)) rfl ⟨rfl,(HF.out.pr.below.setCell (p:=zO w.heap.size 0) (yg _) _).setCell (p:=zO w.heap.size 1) (yg _) _⟩
  |true=>
    obtain⟨f',rfl⟩:∃f',f=f'+1:=⟨f - 1,by have:=T rfl;omega⟩;have y:=qrf rest;obtain⟨c0,U⟩:∃c0,Lib.cut rest [46]=c0:=⟨_,rfl⟩;obtain⟨wd2,rest2,more2⟩:=c0;have J:=HG.out;rw[q1o,U]at J;rw[U]at y;simp only at J y;have he:Hid (zC 146 #[.string ⟨rest.toArray⟩,.string ⟨#[46]⟩] wr fun e w2=>e=.returned (.tuple #[.string ⟨wd2.toArray⟩,.string ⟨rest2.toArray⟩,.bool more2])/\∃n,w2=wr.drewN n):=by
     have:=HC.out ⟨rest.toArray⟩ wr (by rw[qb1];exact O) HF.out.pr.below;have e:Lib.cut (ByteArray.mk rest.toArray).data.toList [46]=(wd2,rest2,more2):=U;rw[e]at this;exact this
    obtain⟨r,hr⟩:∃r,qo1 D p wd2=r:=⟨_,rfl⟩;rw[hr]at J;obtain⟨qa,qn,qcap,hq⟩:=HA.out (r.getD none);have He:Hid (∀n,zC 214 #[.agg #[.slice pa pn pcap,zI (pcI p)],.string ⟨wd2.toArray⟩] (wr.drewN n) fun e w2=>e=.returned (.tuple #[.agg #[.slice qa qn qcap,zI (pcI (r.getD none))],.bool r.isSome])/\Below (wr.drewN n).heap.size (wr.drewN n) w2):=fun n=>by
     have:=Hc.out p ⟨wd2.toArray⟩ (wr.drewN n) (HF.out.drewN n).pr.below;have e:qo1 D p (ByteArray.mk wd2.toArray).data.toList=r:=hr;rw[e,qdk,HP.out]at this;unfold qtf at this;rw[qdk,hq]at this;exact this
    have hf:=zH J;have HQ:=zH hq;have l0:=fun n=>(HF.out.drewN n).facts.1.1;have l1:=fun n=>(HF.out.drewN n).facts.1.2;have Hf:rest2.length<=100000:=by have:=y.1;omega
    have hg:more2=true->rest2.length+1<=f':=fun h=>by have:=y.2 h;have:=T rfl;omega
    have Hg:more2=true->rest2.length+1<=rest.length:=y.2;clear HG J hq hr U y T k0 k1 f0 f1
    go_wp2_with (first
     |(go_at_call 146;refine xQ he.out ?_;rintro e w' ⟨rfl,n,rfl⟩)
     | (go_at_call 214;refine xQ (He.out n) ?_;rintro e w2 ⟨rfl,hb⟩;have Z:=(HF.out.drewN n).next hb;have hi:=zH Z;obtain⟨⟨m0,m1⟩,f0,f1⟩:=Z.facts;clear Z hb))
    go_roundw
    case rel=>exact⟨f',r.getD none,wd2,rest2,more2,qa,qn,qcap,rfl,rfl,rfl,Hf,hg,hf,HQ,hi.out.set qa qn qcap _⟩
    case measure=>
     cases more2 with
     |false=>exact Nat.succ_pos _
     |true=>
       have:=Hg rfl;show(ByteArray.mk rest2.toArray).size+1<(ByteArray.mk rest.toArray).size+1;rw[qb1,qb1];omega
theorem q3j(dv v:Value)(D:List Dt)(K:List Pc)(name:zT)(B:Nat)(w:World)(z:B<=w.heap.size)(I:DsAt B w dv D)(hK:qzm w dv v K)(J:qa3 w)(O:name.size<=100000)(y:K≠[]) :
  zC 175 #[v,.string name] w (zR (qe0 dv (qe3 D K name.data.toList)) w):=by
 by_cases h:name.data.toList=[46]
 ·obtain rfl:name=⟨#[46]⟩:=xi (Array.toList_inj.1 h)
  have e:qe3 D K (ByteArray.mk #[46]).data.toList=(K.head?).getD none:=by unfold qe3;rw[if_pos rfl]
  rw[e];exact zc0 dv v D K B w I hK y
 ·exact q58 dv v D K name B w z I hK J O h
end Go.Proofs.YtfkhljmiehdgmaaGreatDoor
