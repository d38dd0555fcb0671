/-
  Steps of the proof.
-/
import Derived.Test.YtfkhljmiehdgmaaGreatDoorCuBC
import Derived.Deep.Slices
set_option maxRecDepth 100000
set_option maxHeartbeats 40000000
namespace Go.Proofs.YtfkhljmiehdgmaaGreatDoor
open Go.RowKit Go.Proofs.Tryz Pl
theorem qyd(t:zU)(a:Nat):((⟨t.toArray⟩:zT).extract 0 a).data.toList=t.take a:=by
 rw[qg6];simp
theorem qoo(t:zU)(z:Nat):((⟨t.toArray⟩:zT).extract z t.length).data.toList=t.drop z:=by
 rw[qg6];show(t.drop z).take (t.length - z)=t.drop z;exact yp (by simp)
theorem zfs(l:zU):l=[]\/∃A b,l=A++[b]:=by
 rcases List.eq_nil_or_concat l with h|⟨A,b,h⟩
 ·exact .inl h
 ·exact .inr ⟨A,b,by simpa using h⟩
theorem q3o(l:zU):(⟨l.toArray⟩:zT).toList.isEmpty=l.isEmpty:=by rw[Lib.toList_data]
theorem zcx(A:zU)(b:UInt8)(y:A.length<(⟨(A++[b]).toArray⟩:zT).size):(⟨(A++[b]).toArray⟩:zT)[A.length]'y=b:=by
 show(A++[b]).toArray[A.length]'_=b;simp
theorem q9j(b:UInt8)(L:zU)(y:0<(⟨(b::L).toArray⟩:zT).size):(⟨(b::L).toArray⟩:zT)[0]'y=b:=rfl
theorem qb1(l:zU):(⟨l.toArray⟩:zT).size=l.length:=by simp[ByteArray.size]
theorem zce(w:World)(B g:Nat)(t:zU)(c:Ct)(vp vo:Value)(h:CtAt w B g t c vp vo)(a z:Nat)(V:a<=t.length)(X:z<=t.length)(Z:t.length<=2000) :
  zC 151 #[zP g,zI a,zI z] w (zR (.tuple #[zI (qel t a z).1,zI (qel t a z).2]) w):=by
 have hT:∀w,zC 204 #[.string ((⟨t.toArray⟩:zT).extract 0 a),.string ⟨#[9,12,13,32]⟩] w (zR (bs (Lib.trimRightS (t.take a) qdq)) w):=fun w=>by
  have:=qr2 ((⟨t.toArray⟩:zT).extract 0 a) w (by rw[qg6,qb1];simp;omega);rw[qyd]at this;exact this
 have hL:∀w,zC 196 #[.string ((⟨t.toArray⟩:zT).extract z t.length),.string ⟨#[9,12,13,32]⟩] w (zR (bs (Lib.trimLeftS (t.drop z) qdq)) w):=fun w=>by
  have:=que ((⟨t.toArray⟩:zT).extract z t.length) w;rw[qoo]at this;exact this
 have D:=qmd (t.take a) qdq;have I:=qiq (t.drop z) qdq;unfold qel;rw[yP]at D;rw[yM]at I;generalize Lib.trimRightS (t.take a) qdq=A at *;generalize Lib.trimLeftS (t.drop z) qdq=Y at *;have hP:∀w,zC 205 #[.string ⟨Y.toArray⟩,.string ⟨#[10]⟩] w (zQ (.string ⟨(Lib.trimPrefix Y [10]).toArray⟩) w):=fun w=>by
  refine(strings_TrimPrefix ⟨Y.toArray⟩ ⟨#[10]⟩ w).mono ?_;rintro e w' ⟨rfl,rfl⟩;exact⟨rfl,rfl⟩
 have U:=q2l Y [10];have J:(⟨(Lib.trimPrefix Y [10]).toArray⟩:zT).size<=t.length:=by rw[qb1];omega
 have fin:(t.length:Int) - ((⟨(Lib.trimPrefix Y [10]).toArray⟩:zT).size:Int)=((t.length - (Lib.trimPrefix Y [10]).length:Nat):Int):=by rw[qb1];omega
 unfold bs at hT hL;have hm:=zfn w B g t c vp vo h a z V X Z _ _ hT hL _ hP J;rw[fin]at hm;have O:∀bz,Y.head?.any (·!= 10)=!bz->((⟨Y.toArray⟩:zT).toList.isEmpty=true/\bz=true\/(⟨Y.toArray⟩:zT).toList.isEmpty=false/\∃_:0<(⟨Y.toArray⟩:zT).size,((⟨Y.toArray⟩:zT)[0]==10)=bz):=fun bz q=>by
  rw[q3o];rcases Y with _|⟨y,Y⟩
  ·cases bz<;>simp at q |-
  ·exact .inr ⟨rfl,by rw[qb1];simp,by rw[q9j];cases bz<;>simpa [bne]using q⟩
 have T:∀bx,A.getLast?.any (·!= 10)=!bx->((⟨A.toArray⟩:zT).toList.isEmpty=true/\bx=true\/(⟨A.toArray⟩:zT).toList.isEmpty=false/\∃n,(⟨A.toArray⟩:zT).size=n+1/\n<=100000/\∀hh:n<(⟨A.toArray⟩:zT).size,((⟨A.toArray⟩:zT)[n]'hh==10)=bx):=fun bx q=>by
  rw[q3o];rcases zfs A with rfl|⟨A,b,rfl⟩
  ·cases bx<;>simp at q |-
  ·exact .inr ⟨by simp,A.length,by rw[qb1];simp,by simp at D;omega,fun hh=>by rw[zcx];cases bx<;>simpa [bne]using q⟩
 have:=hm (!A.getLast?.any (·!= 10)) (!Y.head?.any (·!= 10)) (T _ (by simp)) (O _ (by simp));rw[qb1]at this;cases hA:A.getLast?.any (·!= 10)<;>cases hY:Y.head?.any (·!= 10)<;>simp only[hA,hY]at this |-<;>exact this
variable{P:Program}{a:Act}{w wr w':World}{B g:Nat}{R:(Nat×Nat)×List Pt}{c:Ct}{vp vo:Value}
theorem qt7{pre rest:Code}{Q:Exit->Act->World->Prop}(l:Nat)(J:Act->World->Prop)(μ:Act->World->Nat)(z:findLabel pre l=none)
  (y:pre.wp P (fun e a' w'=>e=.normal/\J a' w') a w)
  (pass:∀a w,J a w->rest.wp P (Exit.jump l (fun a' w'=>J a' w'/\μ a' w'<μ a w) Q) a w):(Code.scope (pre.seq ((Code.label l).seq rest))).wp P Q a w:=by
 refine wp_scope_jumps l J μ (rest:=Code.skip.seq rest) (by simp[findLabel,z]) ?_ (fun a w D=>wp_seq (wp_skip (pass a w D)));refine wp_seq (wp_mono y ?_);rintro e a' w' ⟨rfl,D⟩;show((Code.label l).seq rest).wp P (Exit.jump l J Q) a' w';refine wp_seq (wp_label ?_);show rest.wp P (Exit.jump l J Q) a' w';refine wp_mono (pass a' w' D) ?_;intro e a'' w'' h;cases e<;>first|exact⟨h.1,h.2.1⟩|exact h
theorem zew{c:Code}{Q:Exit->Act->World->Prop}(h:∀Q':Exit->Act->World->Prop,(∀e a w,Q e a w->Q' e a w)->c.wp P Q' a w):c.wp P Q a w:=h Q (fun _ _ _ q=>q)
structure CutI(w wr:World)(B g:Nat)(t:zU)(R:(Nat×Nat)×List Pt)(c:Ct)(p:Nat)(vp vo:Value):Prop where
 at':CtAt wr B g t c vp vo
 ok:CtOk t c p
 cur:Cur B g w wr
 slot:wr.heap[w.heap.size]?=zK #[zI 0,zI 0] 169
 ml:qa3 wr
 rest:c.rest t p=R
def CutJ(w:World)(B g:Nat)(t:zU)(R:(Nat×Nat)×List Pt)(a:Act)(wr:World):Prop:=
 ∃(c:Ct) (p:Nat) (vp vo:Value) (u:Nat->Value),a={ tmps:=#[zP g,u 1,zP w.heap.size,zI p,u 4,u 5,u 6,u 7,u 8,u 9,u 10,u 11,u 12,u 13,u 14,u 15,u 16,u 17,u 18,u 19,u 20,u 21,u 22,u 23,u 24,u 25,u 26,u 27,u 28,u 29,u 30,u 31,u 32,u 33,u 34,u 35,u 36,u 37,u 38,u 39,u 40,u 41,u 42,u 43,u 44,u 45,u 46,u 47,u 48,u 49,u 50,u 51,u 52,u 53,u 54,u 55,u 56,u 57,u 58,u 59,u 60,u 61,u 62,u 63,u 64,u 65,u 66,u 67,u 68,u 69,u 70,u 71,u 72,u 73,u 74,u 75,u 76,u 77,u 78,u 79,u 80,u 81,u 82,u 83,u 84,u 85,u 86,u 87,u 88,u 89,u 90,u 91,u 92,u 93,u 94,u 95,u 96,u 97,u 98,u 99,u 100,u 101,u 102,u 103,u 104,u 105],defers:=[] }/\CutI w wr B g t R c p vp vo
theorem CutJ.of{t:zU}{tm:Array Value}(c:Ct)(p:Nat)(vp vo:Value)(y:tm=#[zP g,tm.getD 1 undef,zP w.heap.size,zI p,tm.getD 4 undef,tm.getD 5 undef,tm.getD 6 undef,tm.getD 7 undef,tm.getD 8 undef,tm.getD 9 undef,tm.getD 10 undef,tm.getD 11 undef,tm.getD 12 undef,tm.getD 13 undef,tm.getD 14 undef,tm.getD 15 undef,tm.getD 16 undef,tm.getD 17 undef,tm.getD 18 undef,tm.getD 19 undef,tm.getD 20 undef,tm.getD 21 undef,tm.getD 22 undef,tm.getD 23 undef,tm.getD 24 undef,tm.getD 25 undef,tm.getD 26 undef,tm.getD 27 undef,tm.getD 28 undef,tm.getD 29 undef,tm.getD 30 undef,tm.getD 31 undef,tm.getD 32 undef,tm.getD 33 undef,tm.getD 34 undef,tm.getD 35 undef,tm.getD 36 undef,tm.getD 37 undef,tm.getD 38 undef,tm.getD 39 undef,tm.getD 40 undef,tm.getD 41 undef,tm.getD 42 undef,tm.getD 43 undef,tm.getD 44 undef,tm.getD 45 undef,tm.getD 46 undef,tm.getD 47 undef,tm.getD 48 undef,tm.getD 49 undef,tm.getD 50 undef,tm.getD 51 undef,tm.getD 52 undef,tm.getD 53 undef,tm.getD 54 undef,tm.getD 55 undef,tm.getD 56 undef,tm.getD 57 undef,tm.getD 58 undef,tm.getD 59 undef,tm.getD 60 undef,tm.getD 61 undef,tm.getD 62 undef,tm.getD 63 undef,tm.getD 64 undef,tm.getD 65 undef,tm.getD 66 undef,tm.getD 67 undef,tm.getD 68 undef,tm.getD 69 undef,tm.getD 70 undef,tm.getD 71 undef,tm.getD 72 undef,tm.getD 73 undef,tm.getD 74 undef,tm.getD 75 undef,tm.getD 76 undef,tm.getD 77 undef,tm.getD 78 undef,tm.getD 79 undef,tm.getD 80 undef,tm.getD 81 undef,tm.getD 82 undef,tm.getD 83 undef,tm.getD 84 undef,tm.getD 85 undef,tm.getD 86 undef,tm.getD 87 undef,tm.getD 88 undef,tm.getD 89 undef,tm.getD 90 undef,tm.getD 91 undef,tm.getD 92 undef,tm.getD 93 undef,tm.getD 94 undef,tm.getD 95 undef,tm.getD 96 undef,tm.getD 97 undef,tm.getD 98 undef,tm.getD 99 undef,tm.getD 100 undef,tm.getD 101 undef,tm.getD 102 undef,tm.getD 103 undef,tm.getD 104 undef,tm.getD 105 undef])(z:CutI w wr B g t R c p vp vo):CutJ w B g t R { tmps:=tm,defers:=[] } wr:=
 ⟨c,p,vp,vo,fun i=>tm.getD i undef,yE (fun x=>({ tmps:=x,defers:=[] }:Act)) y,z⟩
def CutP(w:World)(B g:Nat)(t:zU)(R:(Nat×Nat)×List Pt)(e:Ending)(w':World):Prop:=
 e=.returned (qg8 R.1.1 R.1.2)/\Cur B g w w'/\(R.1.1=0->∃c vp vo,CtAt w' B g t c vp vo/\c.parts=R.2)
def qd0(t:zU):Prop:=∀(L:zU) (w:World),L.length<=2000->(∀b∈L,b∈t)->qa3 w ->
 zC 149 #[zV L] w (zR (qeh (qba L)) w)
theorem CutI.drewN{t:zU}{p:Nat}(h:CutI w wr B g t R c p vp vo)(n:Nat):CutI w (wr.drewN n) B g t R c p vp vo:=
 ⟨h.at'.kept fun _ _=>rfl,h.ok,⟨qat h.cur.below n,h.cur.keep⟩,h.slot,h.ml,h.rest⟩
theorem qpu:(274:TypeId)≠229:=by decide
theorem qsg:(274:TypeId)≠3:=by decide
theorem qff:(169:TypeId)≠229:=by decide
theorem qfz:(169:TypeId)≠3:=by decide
theorem q36:(169:TypeId)≠222:=by decide
theorem CtAt.setSlip{t:zU}(h:CtAt w B g t c vp vo){k:Nat}{cs:Array Value}{fz:Nat×Nat}(z:w.heap[k]?=some (.cells cs 169 fz))(j:Nat)(v:Value):CtAt (w.setCell (zO k j) v) B g t c vp vo:=by
 have y:∀i,i≠k->(w.setCell (zO k j) v).heap[i]?=w.heap[i]?:=fun i D=>xK _ _ _ _ D;refine⟨(y g (qae h.blk z q36.symm)).trans h.blk,qab h.parts fun i D=>y i ?_,qab h.opened fun i D=>y i ?_,h.le⟩
 ·obtain⟨cur,I⟩:=qac h.parts i D
  exact qae I z qff.symm
 ·obtain⟨cur,I⟩:=qac h.opened i D
  exact qae I z qfz.symm
theorem Cur.setNew(h:Cur B g w w')(y:B<=w.heap.size)(j:Nat)(v:Value):Cur B g w (w'.setCell (zO w.heap.size j) v):=
 ⟨h.below.setCell (p:=zO w.heap.size j) y v,fun k cs t fz z D I J=>(xK _ _ _ _ (by have:=(ya.1 z).1;simp only;omega)).trans (h.keep k cs t fz z D I J)⟩
theorem qq6{t:TypeId}{u0 u1:Value}(h:w.heap[g]?=zK #[u0,u1] t)(v0 v1:Value) :
  ((w.setCell (zO g 0) v0).setCell (zO g 1) v1).heap[g]?=zK #[v0,v1] t:=
 xG _ _ _ _ _ _ (xG _ _ _ _ _ _ h)
theorem q11{t:zU}(y:a.tmps.getD 2 undef=zP w.heap.size)(hd:a.defers=[])(z:w'.heap[w.heap.size]?=zK #[zI 0,zI 0] 169)(D:Cur B g w w')(I:B<=w.heap.size)
  (k q:Int) (J:k=R.1.1) (O:q=R.1.2) (T:R.1.1=0->∃c vp vo,CtAt w' B g t c vp vo/\c.parts=R.2) :
  bodyPost prog f104 (CutP w B g t R) .ret a ((w'.setCell (zO w.heap.size 0) (zI k)).setCell (zO w.heap.size 1) (zI q)):=by
 subst J O;refine bodyPost_ret (qbn results104 _ _ w.heap.size _ _ y (qaa (qq6 z _ _)) underlying169 rfl (by kernel_rfl)) hd ?_;refine⟨rfl,(D.setNew I _ _).setNew I _ _,fun U=>?_⟩;obtain⟨c,vp,vo,V,X⟩:=T U;exact⟨c,vp,vo,(V.setSlip z _ _).setSlip (xG _ _ _ _ _ _ z) _ _,X⟩
theorem qid{k:Nat}(y:w'.heap[k]?=zK #[zI 0,zI 0] 169):w'.cell? (zO k 0)=some (zI 0)/\w'.cell? (zO k 1)=some (zI 0)/\w'.frozen? (zO k 0)=false/\w'.frozen? (zO k 1)=false:=by
 have c:=qaa y;exact⟨c 0 _ rfl,c 1 _ rfl,by simp[World.frozen?,y],by simp[World.frozen?,y]⟩
theorem qa3.cur(h:qa3 w)(z:Below B w w')(y:11<B):qa3 w':=by
 obtain⟨m,D⟩:=h;exact⟨m,(xP (z.block _ y)).trans D⟩
theorem q8s(l cs:zU):∀b∈Lib.trimS l cs,b∈l:=by
 intro b y;unfold Lib.trimS Lib.trimLeftS Lib.trimRightS at y;have z:=(List.dropWhile_sublist _).subset y;rw[List.mem_reverse]at z;have D:=(List.dropWhile_sublist _).subset z;exact List.mem_reverse.1 D
theorem za6(l cs:zU):(Lib.trimS l cs).length<=l.length:=by
 unfold Lib.trimS;exact yh (qiq _ _) (qmd _ _)
theorem zgb(w:World)(B g:Nat)(t:zU)(c0:Ct)(vp0 vo0:Value)(h:CtAt w B g t c0 vp0 vo0)(Ho:CtOk t c0 0)(hm:qa3 w)(ht:t.length<=2000)(hR:qd0 t)(hp:11<B) :
  zC 104 #[zP g] w (CutP w B g t (c0.rest t 0)):=by
 have HI:Hid (CutI w (w.alloc (.cells #[zI 0,zI 0] 169)) B g t (c0.rest t 0) c0 0 vp0 vo0):=
  ⟨h.alloc _,Ho,Cur.of_below (zB _) (yh h.le (yj h.lt)),xF w _,hm.below (zB _),rfl⟩
 have HR:=zH hR;have HC:g<w.heap.size:=h.lt;clear h Ho hm hR;generalize D:c0.rest t 0=R at HI |-;clear D;go_enter func104,ntmps104
 go_wp2
 refine qt7 0 (CutJ w B g t R) (fun a' _=>t.length - (intOf (a'.tmps.getD 3 undef)).toNat) rfl ?_ ?_
 ·go_wp2
  exact⟨c0,0,vp0,vo0,fun _=>undef,rfl,HI.out⟩
 ·rintro a' wr ⟨c,p,vp,vo,u,rfl,hI⟩
  clear HI;have HI:=zH hI;refine zew (fun Q2 Hp=>?_);have HQ:=zH Hp;clear Hp;obtain⟨m,hm⟩:=hI.ml;obtain⟨T,hT⟩:∃T,T=(⟨t.toArray⟩:zT):=⟨_,rfl⟩;have hD:T.size=t.length:=by rw[hT];exact qb1 t
  have b0:=hI.at'.cell 0 _ rfl;have b1:=hI.at'.cell 1 _ rfl;have b2:=hI.at'.cell 2 _ rfl;unfold bs at b0 b1 b2;rw[<-hT]at b0;have hO:(⟨c.op.toArray⟩:zT).data.toList=c.op:=rfl;have hC:(⟨c.cl.toArray⟩:zT).data.toList=c.cl:=rfl;generalize (⟨c.op.toArray⟩:zT)=O at b1 hO;generalize (⟨c.cl.toArray⟩:zT)=C at b2 hC;have hE:(T.extract p t.length).data.toList=t.drop p:=by rw[hT,qoo]
  have I:=fun n=>strings_Cut (T.extract p t.length) O m (wr.drewN n) (by rw[hT,qg6,qb1];simp;omega) hm;rw[hE,hO]at I;have hx:=hI.ok.le;have c1:(p:Int)<=(t.length:Int):=by omega
  have hg:w.heap.size≠g:=by omega
  have hB:=hI.at'.le;have okc:=zH hI.ok;clear hI;by_cases f1:(Lib.cut (t.drop p) c.op).2.2=true
  rotate_left
  ·have f1:=ye.2 f1
   have hS:=qmh f1;have okd:=qin okc.out t.length t.length hx (yg _) (yg _);have D:R=((c.addText t p t.length).left,(c.addText t p t.length).parts):=by rw[<-HI.out.rest,qwz hS]
   rw[f1]at I;generalize (Lib.cut (t.drop p) c.op).1=A1 at I;generalize (Lib.cut (t.drop p) c.op).2.1=R1 at I;have Hb:Hid (∀n,zC 146 #[.string (T.extract p t.length),.string O] (wr.drewN n) fun e w''=>e=.returned (.tuple #[zV A1,zV R1,.bool false])/\∃m,w''=wr.drewN m):=fun n=>(I n).mono fun e w'' ⟨h1,q,h2⟩=>⟨h1,n+q,by rw[h2,World.drewN_drewN]⟩;have y:Hid (∀n,zC 147 #[zP g,zI p,zI t.length] (wr.drewN n) fun e w'=>(∃r,e=.returned r)/\CtTo (wr.drewN n) w' B g t (c.addText t p t.length)):=fun n=>by
    exact qrv (wr.drewN n) B g t c vp vo p t.length (HI.out.drewN n).at' (yg _) (by have:=okc.out.few;omega)
   generalize c.addText t p t.length=d at okd D y;have HD:=zH okd;have V:=zH D;clear I hS okd D f1 hO hC hE hT;have hc:Hid (∀W0 W,CtTo W0 W B g t d->zC 148 #[zP g] W (zR (.agg #[zI (d.left.1:Nat),zI (d.left.2:Nat)]) W)):=fun W0 W hT=>by
    obtain⟨vp1,vo1,h1⟩:=hT.ex;exact qxl W B g t d vp1 vo1 h1 (WfO.lt HD.out.wf) (by have:=CtOk.few HD.out;omega) (CtOk.six HD.out)
   go_wp2
   go_quiet ((go_at_call 146;exact Hb.out _))
   go_wp2_with (first
    |(go_at_call 147;refine xQ (y.out _) ?_;rintro e w1 ⟨⟨r,rfl⟩,Hq⟩;have Z:=zH Hq;clear Hq)
    | (go_at_call 148;refine xQ (hc.out _ _ Z.out) ?_;rintro e w2 ⟨rfl,hb⟩;have Hg:=(hb.block _ (yi (ya.1 (HI.out.slot)).1 (CtTo.cur Z.out).below.size)).trans (((CtTo.cur Z.out).keep _ _ _ _ HI.out.slot hg qff qfz).trans HI.out.slot);obtain⟨s0,s1,fs0,fs1⟩:=qid Hg;have Hx:=zH Hg;have J:=zH hb;clear Hg hb))
   refine HQ.out _ _ _ ?_;simp only[Exit.jump];refine q11 rfl rfl Hx.out ((Cur.trans (CutI.drewN HI.out _).cur (CtTo.cur Z.out)).trans (Cur.of_below J.out (by have:=(CtTo.cur Z.out).below.size;have:=HI.out.cur.below.size;have e:(wr.drewN nq).heap.size=wr.heap.size:=rfl;have:=(CtAt.lt HI.out.at');omega))) (by omega) _ _ (by rw[V.out]) (by rw[V.out]) (fun _=>?_);obtain⟨vp1,vo1,h1⟩:=CtTo.ex Z.out;exact⟨d,vp1,vo1,h1.below J.out,by rw[V.out]⟩
  ·obtain⟨i1,hr,hi,Hr,Hc,Hf⟩:=qj8 _ _ f1
   rw[yM]at hi;by_cases f2:(Lib.cut (Lib.cut (t.drop p) c.op).2.1 c.cl).2.2=true
   rotate_left
   ·have f2:=ye.2 f2
    have hS:=qgt f1 f2;have D:R=((2,p+(Lib.cut (t.drop p) c.op).1.length),[]):=by rw[<-HI.out.rest,qfo hS]
    have X:=fun n=>strings_Cut (⟨(Lib.cut (t.drop p) c.op).2.1.toArray⟩:zT) C m (wr.drewN n) (by rw[qb1,Hc];simp;omega) hm;rw[f1]at I;have hl:(⟨(Lib.cut (t.drop p) c.op).2.1.toArray⟩:zT).data.toList=(Lib.cut (t.drop p) c.op).2.1:=rfl;rw[hl,hC,f2]at X;clear Hc Hr hr hS hl;generalize (Lib.cut (t.drop p) c.op).1=A1 at *;generalize (Lib.cut (t.drop p) c.op).2.1=R1 at *;generalize (Lib.cut R1 c.cl).1=A2 at *;generalize (Lib.cut R1 c.cl).2.1=R2 at *;have Hb:Hid (∀n,zC 146 #[.string (T.extract p t.length),.string O] (wr.drewN n) fun e w''=>e=.returned (.tuple #[zV A1,zV R1,.bool true])/\∃m,w''=wr.drewN m):=fun n=>(I n).mono fun e w'' ⟨h1,q,h2⟩=>⟨h1,n+q,by rw[h2,World.drewN_drewN]⟩;have Hi:Hid (∀n,zC 146 #[zV R1,.string C] (wr.drewN n) fun e w''=>e=.returned (.tuple #[zV A2,zV R2,.bool false])/\∃m,w''=wr.drewN m):=fun n=>(X n).mono fun e w'' ⟨h1,q,h2⟩=>⟨h1,n+q,by rw[h2,World.drewN_drewN]⟩;have V:=zH D;obtain⟨s0,s1,fs0,fs1⟩:=qid HI.out.slot;have a0:p+A1.length<=2000:=by omega
    clear I X D f1 f2 hO hC hE hT hi Hf;go_wp2
    go_quiet ((go_at_call 146;exact Hb.out _))
    go_wp2_with (go_at_call 146;refine xQ (Hi.out _) ?_;rintro e w1 ⟨rfl,n2,rfl⟩)
    refine HQ.out _ _ _ ?_;simp only[Exit.jump];refine q11 (w':=wr.drewN n2) rfl rfl HI.out.slot (CutI.drewN HI.out _).cur (by have:=(CtAt.lt HI.out.at');have:=HI.out.cur.below.size;omega) _ _ (by rw[V.out];rfl) (by rw[V.out];rfl) (fun h0=>by rw[V.out]at h0;cases h0)
   ·obtain⟨i2,hy,hs,Hs,Hy,hj⟩:=qj8 _ _ f2
    have Ht:∀b∈Lib.trimS (Lib.cut (Lib.cut (t.drop p) c.op).2.1 c.cl).1 qag,b∈t:=fun b hb=>by
     have h1:=q8s _ _ b hb;rw[Hs]at h1;have h2:=List.mem_of_mem_take h1;rw[Hc]at h2;exact List.mem_of_mem_drop (List.mem_of_mem_drop h2)
    have hu:=za6 (Lib.cut (Lib.cut (t.drop p) c.op).2.1 c.cl).1 qag;obtain⟨one,h1⟩:∃one,qba (Lib.trimS (Lib.cut (Lib.cut (t.drop p) c.op).2.1 c.cl).1 qag)=one:=⟨_,rfl⟩;have ho:=qqh (Lib.trimS (Lib.cut (Lib.cut (t.drop p) c.op).2.1 c.cl).1 qag);rw[h1]at ho;obtain⟨q,hq⟩:∃q,p+(Lib.cut (t.drop p) c.op).1.length=q:=⟨_,rfl⟩;obtain⟨tz,Hj⟩:∃tz,q+c.op.length+(Lib.cut (Lib.cut (t.drop p) c.op).2.1 c.cl).1.length+c.cl.length=tz:=⟨_,rfl⟩;obtain⟨o,ha⟩:∃o,(if one.kind≠2 then qel t q tz else(q,tz))=o:=⟨_,rfl⟩;have hS:=qpa f1 f2 one h1 q tz hq Hj o ha;have hk:(Lib.cut (t.drop p) c.op).2.1.length=t.length - (p+(i1+c.op.length)):=by rw[Hc];simp
    have X:=fun n=>strings_Cut (⟨(Lib.cut (t.drop p) c.op).2.1.toArray⟩:zT) C m (wr.drewN n) (by rw[qb1,hk];omega) hm;rw[f1]at I;have hl:(⟨(Lib.cut (t.drop p) c.op).2.1.toArray⟩:zT).data.toList=(Lib.cut (t.drop p) c.op).2.1:=rfl;rw[hl,hC,f2]at X;rw[Hf]at hq;rw[hj]at Hj hu;rw[hk]at hs;have hz:=(CtOk.op okc.out);have Hz:=(CtOk.cl okc.out);have Hk:tz<=t.length:=by omega
    have Hl:q<=t.length:=by omega
    have hA:O.size=c.op.length:=by rw[<-hO];simp
    have HA:C.size=c.cl.length:=by rw[<-hC];simp
    have Hu:o.1<=q/\tz<=o.2/\o.2<=t.length:=by
     rw[<-ha];split
     ·exact qqx t q tz Hl Hk
     ·exact⟨yg _,yg _,Hk⟩
    have okd:=qin okc.out o.1 q (by omega) Hu.1 Hl;have HB:(Lib.cut (t.drop p) c.op).1.length=i1:=Hf;have hv:(Lib.cut (Lib.cut (t.drop p) c.op).2.1 c.cl).1.length=i2:=hj;clear Hr Hc hr hl hy Hs Hy Hf hj hk;generalize (Lib.cut (t.drop p) c.op).1=A1 at *;generalize (Lib.cut (t.drop p) c.op).2.1=R1 at *;generalize (Lib.cut R1 c.cl).1=A2 at *;generalize (Lib.cut R1 c.cl).2.1=R2 at *;have Hb:Hid (∀n,zC 146 #[.string (T.extract p t.length),.string O] (wr.drewN n) fun e w''=>e=.returned (.tuple #[zV A1,zV R1,.bool true])/\∃m,w''=wr.drewN m):=fun n=>(I n).mono fun e w'' ⟨h1,q,h2⟩=>⟨h1,n+q,by rw[h2,World.drewN_drewN]⟩;have Hi:Hid (∀n,zC 146 #[zV R1,.string C] (wr.drewN n) fun e w''=>e=.returned (.tuple #[zV A2,zV R2,.bool true])/\∃m,w''=wr.drewN m):=fun n=>(X n).mono fun e w'' ⟨h1,q,h2⟩=>⟨h1,n+q,by rw[h2,World.drewN_drewN]⟩;have he:Hid (∀W,zC 150 #[zV A2,.string ⟨#[9,10,12,13,32]⟩] W (zR (zV (Lib.trimS A2 qag)) W)):=fun W=>qz1 ⟨A2.toArray⟩ W (by rw[qb1,hv];omega);have Hv:Hid (∀W,qa3 W->zC 149 #[zV (Lib.trimS A2 qag)] W (zR (.agg #[zI one.kind,zI one.slip,zV one.name,zV one.op,zV one.cl]) W)):=fun W hW=>by
     have:=HR.out (Lib.trimS A2 qag) W (by omega) Ht hW;rw[h1]at this;exact this
    have U:Hid (∀W,CtAt W B g t c vp vo->zC 151 #[zP g,zI q,zI tz] W (zR (.tuple #[zI (qel t q tz).1,zI (qel t q tz).2]) W)):=fun W hW=>zce W B g t c vp vo hW q tz Hl Hk ht;have y:Hid (∀W,CtAt W B g t c vp vo->zC 147 #[zP g,zI p,zI o.1] W fun e w'=>(∃r,e=.returned r)/\CtTo W w' B g t (c.addText t p o.1)):=fun W hW=>qrv W B g t c vp vo p o.1 hW (by omega) (by have:=okc.out.few;omega);generalize c.addText t p o.1=d at okd hS y;have z:Hid (∀W0 W,CtTo W0 W B g t d->zC 152 #[zP g,.agg #[zI one.kind,zI one.slip,zV one.name,zV one.op,zV one.cl],zI q] W fun e w'=>e=.returned (zI (d.take one q).1)/\CtTo W w' B g t (d.take one q).2):=fun W0 W hT=>by
     obtain⟨vp1,vo1,h2⟩:=hT.ex;exact zbh W B g t d vp1 vo1 h2 one ho q (by have:=okd.few;omega) okd.six (WfO.lt okd.wf)
    have Y:=zH hS;have hw:=zH okc.out;clear I X f1 f2 hO hC hE hT hS okd ho Ht hu h1;have a0:p+A1.length=q:=by omega
    generalize (d.take one q)=r at z Y;obtain⟨r1,r2⟩:=r;obtain⟨o1,o2⟩:=o;simp only at Y z y Hu;have a1:(p:Int)+(A1.length:Int)=(q:Int):=by omega
    have wA:IntKind.i64.wrap ((q:Int)+(O.size:Int))=(q:Int)+(O.size:Int):=by rw[IntKind.wrap_i64];omega
    have wB:IntKind.i64.wrap ((q:Int)+(O.size:Int)+(A2.length:Int))=(q:Int)+(O.size:Int)+(A2.length:Int):=by rw[IntKind.wrap_i64];omega
    have wC:IntKind.i64.wrap ((q:Int)+(O.size:Int)+(A2.length:Int)+(C.size:Int))=(tz:Int):=by rw[IntKind.wrap_i64];omega
    clear hA HA hq Hj hz Hz hi hs HB hv a0;generalize HE:(one.kind:Int)=kI at Hv z;by_cases k2:one.kind=2
    case' pos=>
     obtain rfl:kI=2:=by omega
     rw[if_neg (by simpa using k2)]at ha;injection ha with e3 e4;subst e3 e4
    case' neg=>
     have e2:¬kI=2:=by omega
     rw[if_pos k2]at ha;rw[ha]at U
    all_goals
     by_cases Hm:r1≠0
     case' pos=>
      rw[if_pos Hm]at Y;have er:¬(r1:Int)=0:=by omega
     case' neg=>
      rw[if_neg Hm]at Y;have er:(r1:Int)=0:=by omega
     all_goals
      go_wp2
      go_quiet ((go_at_call 146;exact Hb.out _))
      go_wp2_with (go_at_call 146;refine xQ (Hi.out _) ?_;rintro e w0 ⟨rfl,n2,rfl⟩)
      go_quiet (fail)
      go_wp2_with (first
       |(go_at_call 150;refine xQ (he.out _) ?_;rintro e w1 ⟨rfl,hb⟩;have hn:Hid (zW wr w1):=(qat (xL _ wr) _).trans hb;clear hb)
       |(go_at_call 149;refine xQ (Hv.out _ (qa3.below HI.out.ml hn.out)) ?_;rintro e w2 ⟨rfl,hb⟩;have J:Hid (zW wr w2):=hn.out.trans (hb.mono hn.out.size);clear hb)
       |(go_at_call 151;refine xQ (U.out _ (CtAt.below HI.out.at' (J.out.alloc J.out.size _))) ?_;rintro e w3 ⟨rfl,hb⟩;have Ha:Hid (zW wr w3):=(J.out.alloc J.out.size _).trans (hb.mono (by have:=J.out.size;simp;omega));have He:Hid (w3.heap[w2.heap.size]?=zK #[zI kI,zI one.slip,zV one.name,zV one.op,zV one.cl] 274):=(hb.block _ (by simp)).trans (xF w2 _);clear hb)
       |(go_at_call 147;refine xQ (y.out _ (CtAt.below HI.out.at' Ha.out)) ?_;rintro e w4 ⟨⟨r,rfl⟩,hT⟩;have hf:Hid (CtTo w3 w4 B g t d):=hT;have k12:=(hT.cur.keep _ _ _ _ He.out (by have:=CtAt.lt HI.out.at';have:=J.out.size;omega) qpu qsg).trans He.out;have t0:=al (qaa k12);clear hT k12)
       |(go_at_call 147;have Ha:Hid (zW wr (w2.alloc (.cells #[zI 2,zI one.slip,zV one.name,zV one.op,zV one.cl] 274))):=J.out.alloc J.out.size _;have He:Hid ((w2.alloc (.cells #[zI 2,zI one.slip,zV one.name,zV one.op,zV one.cl] 274)).heap[w2.heap.size]?=zK #[zI 2,zI one.slip,zV one.name,zV one.op,zV one.cl] 274):=xF w2 _;refine xQ (y.out _ (CtAt.below HI.out.at' Ha.out)) ?_;rintro e w4 ⟨⟨r,rfl⟩,hT⟩;have hf:Hid (CtTo (w2.alloc (.cells #[zI 2,zI one.slip,zV one.name,zV one.op,zV one.cl] 274)) w4 B g t d):=hT;have k12:=(hT.cur.keep _ _ _ _ He.out (by have:=CtAt.lt HI.out.at';have:=J.out.size;omega) qpu qsg).trans He.out;have t0:=al (qaa k12);clear hT k12)
       | (go_at_call 152;refine xQ (z.out _ _ hf.out) ?_;rintro e w5 ⟨rfl,hT⟩;have Hn:Hid (CtTo w4 w5 B g t r2):=hT;have z3:=(Ha.out.block _ (ya.1 HI.out.slot).1).trans HI.out.slot;have z4:=(hf.out.cur.keep _ _ _ _ z3 hg qff qfz).trans z3;have z5:=(hT.cur.keep _ _ _ _ z4 hg qff qfz).trans z4;obtain⟨s0,s1,fs0,fs1⟩:=qid z5;have HZ:=zH z5;clear z3 z4 z5 hT))
      have Hw:Hid (Cur B g w w5):=((HI.out.cur.trans (Cur.of_below Ha.out (by have:=CtAt.lt HI.out.at';omega))).trans hf.out.cur).trans Hn.out.cur
     ·go_step3
      refine HQ.out _ _ _ ?_;simp only[Exit.jump];obtain⟨vp5,vo5,h5⟩:=Hn.out.ex;obtain⟨ok5,lt5⟩:=qhj hw.out Y.out;refine⟨trivial,CutJ.of r2 _ vp5 vo5 (by rfl) ⟨h5,ok5,Hw.out,HZ.out,qa3.cur (qa3.cur (qa3.below HI.out.ml Ha.out) hf.out.cur.below hp) Hn.out.cur.below hp,by rw[<-qw0 hw.out Y.out];exact HI.out.rest⟩,?_⟩;simp[intOf];omega
     ·refine HQ.out _ _ _ ?_
      simp only[Exit.jump];have D:R=((r1,q),[]):=by rw[<-HI.out.rest,qfo Y.out]
      exact q11 (w':=w5) rfl rfl HZ.out Hw.out (by have:=CtAt.lt HI.out.at';have:=HI.out.cur.below.size;omega) _ _ (by rw[D]) (by rw[D]) (fun h0=>by rw[D]at h0;exact absurd h0 Hm)
theorem qlj{P:Program}{fn:Func}{R:Ending->World->Prop}{a:Act}{w:World}{t p:Tmp}{ty:TypeId}(h:fn.results=#[.tmp t,.cell p ty])(y:a.defers=[])(g:Nat)(x u0 u1:Value)(z:a.tmps.getD t undef=x)(D:a.tmps.getD p undef=zP g)
  (I:w.heap[g]?=zK #[u0,u1] ty) (d:TypeDesc) (J:P.underlying ty=some d) (hd:aggD d=true) (O:(P.info? ty).map (·.size)=some 2) (T:R (.returned (.tuple #[x,.agg #[u0,u1]])) w):bodyPost P fn R .ret a w:=by
 subst z;refine bodyPost_ret ?_ y T;have U:=qbb (P:=P) w g ty #[u0,u1] d (qaa I) J (by cases d<;>first|rfl|cases hd) O
 rw[yY]at D;simp only[results,h];simp[D,asAddr,U]
theorem q4f(T:zT)(w:World)(Z:qa3 w)(hs:T.size<=2000)(hR:qd0 T.data.toList) :
  zC 74 #[.string T] w fun e w'=>(∃v,e=.returned (.tuple #[v,qg8 (qam T.data.toList).1.1 (qam T.data.toList).1.2])/\((qam T.data.toList).1.1=0->w'.ownsRow w.heap.size 229 4 v (qam T.data.toList).2.length (qbp (qam T.data.toList).2)))/\zW w w':=by
 have hl:T.data.toList.length=T.size:=by simp
 have X:(⟨T.data.toList.toArray⟩:zT)=T:=by cases T;simp
 rw[qrg _ (by omega)];have Y:11<w.heap.size:=by
  obtain⟨m,h⟩:=Z;exact xO _ _ h
 have U:=fun w=>qyz T w (by omega)
 have z:=fun(w1:World) (hb:zW w w1)=>zgb (w1.alloc (.cells #[.string T,.string ⟨#[123,123]⟩,.string ⟨#[125,125]⟩,zN,zN] 222)) w.heap.size w1.heap.size T.data.toList Ct.start (zN) (zN)
  ⟨by rw[xF];show _=some (Obj.cells #[.string (⟨T.data.toList.toArray⟩:zT),_,_,_,_] _ _);rw[X];rfl,World.ownsRow_nil _ _ _ _,World.ownsRow_nil _ _ _ _,hb.size⟩ (qik _) ((Z.below hb).below (zB _)) (by omega) hR Y
 generalize Ct.start.rest T.data.toList 0=R at z |-;have c1:¬(2000:Int)<(T.size:Int):=by omega
 have V:=zH U;have O:=zH z;clear U z Z hR;by_cases h0:R.1.1=0
 ·have e0:(R.1.1:Int)=0:=by omega
  rw[if_pos h0];go_enter func74,ntmps74
  go_wp2_with (first
   |(go_at_call 73;refine xQ (V.out _) ?_;rintro e w1 ⟨rfl,hb⟩;have D:Hid (zW w w1):=((xL w.heap.size w).alloc (yg _) _).trans (hb.mono (by simp));have I:Hid (w1.heap[w.heap.size]?=zK #[zI 0,zI 0] 169):=(hb.block _ (by simp)).trans (xF w _);clear hb)
   | (go_at_call 104;refine xQ (O.out _ D.out) ?_;rintro e w2 ⟨rfl,hc,hx⟩;unfold qg8;have HC:Hid (Cur w.heap.size w1.heap.size (w1.alloc (.cells #[.string T,.string ⟨#[123,123]⟩,.string ⟨#[125,125]⟩,zN,zN] 222)) w2):=hc;obtain⟨c,vp,vo,hA,hP⟩:=hx h0;have b3:∀o,(w2.alloc o).cell? (zO w1.heap.size 3)=some vp:=fun o=>(hA.alloc o).cell 3 _ rfl;have y:w.heap.size<w1.heap.size:=(ya.1 I.out).1;have z2:=(hc.keep _ _ _ _ ((xI w1 _ y).trans I.out) (by omega) qff qfz).trans ((xI w1 _ y).trans I.out);have J:w.heap.size<w2.heap.size:=(ya.1 z2).1;obtain⟨s0,s1,fs0,fs1⟩:=qid z2;have HZ:=zH z2;have HA:=zH hA;have HP:=zH hP;clear hc hx hA hP z2))
  have hW:=qq6 HZ.out (zI 0) (zI 0);refine qlj results74 rfl w.heap.size vp (zI 0) (zI 0) rfl rfl ((xI _ _ (by simp;exact J)).trans hW) _ underlying169 rfl (by kernel_rfl) ?_;refine⟨⟨_,rfl,fun _=>?_⟩,?_⟩
  ·have h1:=(((HA.out.setSlip HZ.out 0 (zI 0)).setSlip (xG _ _ _ _ _ _ HZ.out) 1 (zI 0)).alloc (.cells #[zI 0,zI R.1.2] 169)).parts
   rw[HP.out]at h1;exact h1
  ·exact((((D.out.alloc D.out.size _).trans HC.out.below).setCell (p:=zO w.heap.size 0) (yg _) _).setCell (p:=zO w.heap.size 1) (yg _) _).alloc (by simp;omega) _
 ·have e0:¬(R.1.1:Int)=0:=by omega
  rw[if_neg h0];go_enter func74,ntmps74
  go_wp2_with (first
   |(go_at_call 73;refine xQ (V.out _) ?_;rintro e w1 ⟨rfl,hb⟩;have D:Hid (zW w w1):=((xL w.heap.size w).alloc (yg _) _).trans (hb.mono (by simp));have I:Hid (w1.heap[w.heap.size]?=zK #[zI 0,zI 0] 169):=(hb.block _ (by simp)).trans (xF w _);clear hb)
   | (go_at_call 104;refine xQ (O.out _ D.out) ?_;rintro e w2 ⟨rfl,hc,hx⟩;unfold qg8;have HC:Hid (Cur w.heap.size w1.heap.size (w1.alloc (.cells #[.string T,.string ⟨#[123,123]⟩,.string ⟨#[125,125]⟩,zN,zN] 222)) w2):=hc;have y:w.heap.size<w1.heap.size:=(ya.1 I.out).1;have z2:=(hc.keep _ _ _ _ ((xI w1 _ y).trans I.out) (by omega) qff qfz).trans ((xI w1 _ y).trans I.out);have J:w.heap.size<w2.heap.size:=(ya.1 z2).1;obtain⟨s0,s1,fs0,fs1⟩:=qid z2;have HZ:=zH z2;clear hc hx z2))
  go_region
  all_goals
   go_wp2
   have hW:=qq6 HZ.out (zI R.1.1) (zI R.1.2);refine qlj results74 rfl w.heap.size (zN) (zI R.1.1) (zI R.1.2) rfl rfl ((xI _ _ (by simp;exact J)).trans hW) _ underlying169 rfl (by kernel_rfl) ?_;refine⟨⟨_,rfl,fun h1=>absurd h1 h0⟩,?_⟩;exact(((((D.out.alloc D.out.size _).trans HC.out.below).setCell (p:=zO w.heap.size 0) (yg _) _).setCell (p:=zO w.heap.size 1) (yg _) _).alloc (by simp;omega) _).drew
theorem qwm(T:zT)(w:World)(y:2000<T.size) :
  zC 74 #[.string T] w (zR (.tuple #[zN,qg8 1 0]) w):=by
 have c1:(2000:Int)<(T.size:Int):=by omega
 unfold qg8;go_enter func74,ntmps74
 go_wp2
 refine qlj results74 rfl w.heap.size (zN) (zI 1) (zI 0) rfl rfl (xF w _) _ underlying169 rfl (by kernel_rfl) ?_;exact⟨rfl,zB _⟩
theorem qz6(T:zT)(w:World)(y:qa3 w)(z:qd0 T.data.toList) :
  zC 74 #[.string T] w fun e w'=>(∃v,e=.returned (.tuple #[v,qg8 (qam T.data.toList).1.1 (qam T.data.toList).1.2])/\((qam T.data.toList).1.1=0->w'.ownsRow w.heap.size 229 4 v (qam T.data.toList).2.length (qbp (qam T.data.toList).2)))/\zW w w':=by
 by_cases D:T.size<=2000
 ·exact q4f T w y D z
 ·have I:T.data.toList.length=T.size:=by simp
  have J:qam T.data.toList=((1,0),[]):=by unfold qam;rw[if_pos (by omega)]
  rw[J];refine(qwm T w (by omega)).mono ?_;rintro e w' ⟨rfl,O⟩;exact⟨⟨_,rfl,fun h=>by cases h⟩,O⟩
def qnt(f:Ft):Value:=.agg #[zI f.code,zI f.kind,bs f.place,zI f.pos]
def qau(L:List (zT×zT)):List (zU×zU):=L.map fun x=>(x.1.data.toList,x.2.data.toList)
def qk5(w:World)(v:Value)(L:List (zT×zT)):Prop:=∃ao cap,v=.slice ao L.length cap/\L.length<=cap/\cap<=maxLen/\(L≠[]->∃b o,ao=some (zO b o)/\PoAt w b o L)
theorem qk5.kept{w w':World}{v:Value}{L:List (zT×zT)}(h:qk5 w v L)(y:zW w w'):qk5 w' v L:=by
 obtain⟨ao,cap,z,D,I,J⟩:=h;refine⟨ao,cap,z,D,I,fun O=>?_⟩;obtain⟨b,o,T,U⟩:=J O;exact⟨b,o,T,fun k x V=>(y.cell (p:=zO b (o+k*2)) (xO _ _ (U.name k x V))).trans (U.name k x V),fun k x V=>(y.cell (p:=zO b (o+k*2+1)) (xO _ _ (U.text k x V))).trans (U.text k x V)⟩
def zht(w:World)(B:Nat)(p:Value)(r:List (Nat×List Int)×List Src):Prop:=∃g F vv M s B',p=zP g/\w.heap[g]?=zK #[vv] 81/\B<=B'/\SvAt w B' F r.2 vv M s/\s.vis=r.1
def zdw:Prop:=∀(T:zT) (v:Value) (L:List (zT×zT)) (w:World),qk5 w v L->PTabs w->qa3 w->qd0 T.data.toList->(∀p∈L,qd0 p.2.data.toList) ->
    zC 12 #[.string T,v] w fun ed w'=>(∃p,ed=.returned (.tuple #[p,qnt (qc5 T.data.toList (qau L)).2])/\((qc5 T.data.toList (qau L)).2.code≠0->p=.pointer none)/\((qc5 T.data.toList (qau L)).2.code=0->zht w' w.heap.size p (qc5 T.data.toList (qau L)).1))/\zW w w'
section
open Go.ChangeShapes Go.WideShapes
theorem qmn{H:Type}{d:DataW H}:∀ {l:List (DataW H)},d∈l->Rows.uptoBulk d<=Rows.uptoBulkAll l
 |e::l,h=>by
   unfold Rows.uptoBulkAll;rcases xt.1 h with rfl|h
   ·omega
   ·have:=qmn h
    omega
theorem qxc{H:Type}:∀l:List (DataW H),l.length<=Rows.uptoBulkAll l
 |[]=>yH _
 |e::l=>by
   have:=qxc l;have:1<=Rows.uptoBulk e:=by
    cases e with
    |lit l=>cases l<;>simp[Rows.uptoBulk]
    |_=>simp[Rows.uptoBulk]
   unfold Rows.uptoBulkAll;rw[yK];omega
theorem qs0(b o j:Nat):((zO b o):Addr).add j=(zO b (o+j)):=by unfold Addr.add;split<;>simp_all
section
variable {H:Type}{enc:TypeId×Value->H}{w:World}{fuel:Nat}{v:Value}{x:DataW H×List MemPlace}{t e:TypeId}{α:Type}
theorem qqo{c:Nat}[Inhabited α]{p:α->List Value->Nat->Prop}(hu:prog.underlying t=some (.slice e))(hc:prog.cellsOf e=c)(h0:0<c)
  (hf:∀n cs y,cs.length=c->DataW.trod enc prog w 0 (fun _=>true) true n e cs=some y->∃a,p a cs (Rows.uptoBulk y.1))
  (h:DataW.trod enc prog w 0 (fun _=>true) true fuel t [v]=some x) :
  ∃L:List α,L.length<=Rows.uptoBulk x.1/\∃ao cap,v=.slice ao L.length cap/\L.length<=cap/\cap<=maxLen/\(L≠[]->∃b o,ao=some (zO b o)/\b<w.heap.size/\∀k a,L[k]?=some a->∃cs m,m<=Rows.uptoBulk x.1/\p a cs m/\∀j u,cs[j]?=some u->w.cell? (zO b (o+k*c+j))=some u):=by
 rcases Deep.open_slice hu h with⟨z,_⟩|⟨a,len,cap,m,n,D,Ps,z,_,hl,hm,U,hx,V⟩
 ·injection z with z _
  exact⟨[],yH _,none,0,z,yH _,yH _,fun h=>absurd rfl h⟩
 injection z with z _;have Z:m=cap:=by rw[U];rfl
 have each:∀i,i<len->∃q:α,∃cs,p q cs (Rows.uptoBulk (D i))/\cs.length=c/\∀j u,cs[j]?=some u->w.cell? (a.add (i*c+j))=some u:=by
  intro i hi;obtain⟨cs,h1,h2⟩:=V i (by omega);rw[hc]at h1;obtain⟨_,I,J⟩:=World.cells?_some h1;obtain⟨q,hq⟩:=hf _ _ _ I h2;refine⟨q,cs,hq,I,fun j u hj=>?_⟩;have:=J j (by rw[<-I];exact(yb.1 hj).1);rw[Deep.add_add]at this;exact this.trans hj
 obtain⟨q,hq⟩:=Deep.choose_lt each;have hb:Rows.uptoBulkAll ((List.range len).map D)<=Rows.uptoBulk x.1:=by
  rw[hx];show _<=Rows.uptoBulkAll _+Rows.uptoBulkAll _+1;omega
 have hn:=qxc ((List.range len).map D);rw[yR,List.length_range]at hn;refine⟨(List.range len).map q,by rw[yR,List.length_range];omega,some a,cap,by rw[z];simp,by simp;omega,hm,fun X=>?_⟩;have T:0<len:=Nat.pos_of_ne_zero fun h=>X (by rw[h];rfl);obtain⟨b,ob,sp⟩:=a;obtain⟨cs0,_,l0,c0⟩:=hq 0 T;have c0:=c0 0 (cs0[0]'(by omega)) (yc (by omega));have Y:sp=none:=by simpa [Addr.add]using World.cell?_spot c0
 subst Y;rw[qs0]at c0;refine⟨b,ob,rfl,xO _ _ c0,fun k y hk=>?_⟩;rw[yz]at hk;obtain⟨j,hj,rfl⟩:=yy.1 hk;have O:=(yb.1 hj).1;rw[List.length_range]at O;rw[List.getElem?_range O]at hj;obtain rfl:=yk hj;obtain⟨cs,h1,h2,h3⟩:=hq k O;refine⟨cs,_,yh (qmn (xq.2 ⟨k,xg.2 O,rfl⟩)) hb,h1,fun i u hi=>?_⟩;have:=h3 i u hi;rw[qs0,<-Nat.add_assoc]at this;exact this
theorem q2y[Inhabited α](f:α->Value)(D:prog.underlying t=some (.slice e))(I:prog.cellsOf e=1)(J:∀n cs y,DataW.trod enc prog w 0 (fun _=>true) true n e cs=some y->∃a,cs=[f a])
  (h:DataW.trod enc prog w 0 (fun _=>true) true fuel t [v]=some x):∃L:List α,qk4 w.heap.size w v (L.map f):=by
 obtain⟨L,_,ao,cap,O,T,U,V⟩:=qqo D I (by decide) (p:=fun a cs _=>cs=[f a]) (fun n cs y _ X=>J n cs y X) h;refine⟨L,ao,cap,by rw[yR];exact O,by rw[yR];omega,fun z=>?_⟩;obtain⟨b,o,e1,e2,e3⟩:=V (fun q=>z (by rw[q];rfl));refine⟨b,o,e1,e2,fun j x Y=>?_⟩;rw[yz]at Y;obtain⟨a,Z,rfl⟩:=yy.1 Y;obtain⟨cs,_,_,rfl,h5⟩:=e3 j a Z;simpa using h5 0 _ rfl
theorem quw(h:DataW.trod enc prog w 0 (fun _=>true) true fuel 22 [v]=some x) :
  ∃L,qk5 w v L/\∀y∈L,y.1.size<=Rows.uptoBulk x.1:=by
 obtain⟨f0,f1,T,o0,o1,t0,t1⟩:∃f0 f1:Field,prog.underlying 38=some (.struct #[f0,f1])/\f0.offset=0/\f1.offset=1/\f0.type=9/\f1.type=9:=⟨_,_,underlying38,rfl,rfl,rfl,rfl⟩;have c2:prog.cellsOf 9=1:=by kernel_rfl
 obtain⟨L,_,ao,cap,U,V,X,Y⟩:=qqo (α:=zT×zT) (p:=fun q cs m=>q.1.size<=m/\cs=[.string q.1,.string q.2]) (e:=38) (c:=2) (by kernel_rfl) (by kernel_rfl) (by decide) (fun n cs y V Z=>by
  obtain⟨xs,k,hk,I,_,J,hf⟩:=DataW.trod_struct T Z
  match xs,J,cs,V with
  |[y0,y1],_,[v0,v1],_=>
    have g0:=hf 0 f0 rfl;have g1:=hf 1 f1 rfl;simp[o0,t0,c2]at g0;simp[o1,t1,c2]at g1;obtain⟨s,hs,D,_⟩:=DataW.trod_string underlying9 g0;obtain⟨s',z,_,_⟩:=DataW.trod_string underlying9 g1;injection hs with hs _;injection z with z _;refine⟨(s,s'),?_,by rw[hs,z]⟩;have h3:=qmn (d:=y0.1) (l:=[y0,y1].map (·.1)) (by simp);rw[D]at h3;have h4:s.size+1<=Rows.uptoBulkAll _:=h3;rw[I];show s.size<=Rows.uptoBulkAll _+1;rw[D];omega) h
 refine⟨L,⟨ao,cap,U,V,X,fun O=>?_⟩,fun y Z=>?_⟩
 ·obtain⟨b,o,e1,_,e3⟩:=Y O
  refine⟨b,o,e1,fun k y hk=>?_,fun k y hk=>?_⟩<;>obtain⟨cs,_,_,⟨_,rfl⟩,h5⟩:=e3 k y hk
  ·exact h5 0 _ rfl
  ·exact h5 1 _ rfl
 ·obtain⟨_,_,_,_,e3⟩:=Y (List.ne_nil_of_mem Z)
  obtain⟨k,hk⟩:=xj Z;obtain⟨_,m,h1,⟨h2,_⟩,_⟩:=e3 k y hk;exact yh h2 h1
theorem wf64{n:Int}(h:(Lit.int .i64 n).wf=true):-9223372036854775808<=n/\n<=9223372036854775807:=by
 simp only[Lit.wf,yL,yN]at h;exact h
theorem q8m(h:DataW.trod enc prog w 0 (fun _=>true) true fuel 44 [v]=some x) :
  ∃D,DsAt w.heap.size w v D/\∀d∈D,(-9223372036854775808<=d.n/\d.n<=9223372036854775807)/\d.s.length<=Rows.uptoBulk x.1:=by
 haveI:Inhabited Dt:=⟨Dt.null⟩
 obtain⟨f0,f1,f2,f3,f4,X,o0,o1,o2,o3,o4,t0,t1,t2,t3,t4⟩:∃f0 f1 f2 f3 f4:Field,prog.underlying 67=some (.struct #[f0,f1,f2,f3,f4])/\f0.offset=0/\f1.offset=1/\f2.offset=2/\f3.offset=3/\f4.offset=4/\f0.type=3/\f1.type=2/\f2.type=9/\f3.type=36/\f4.type=35:=⟨_,_,_,_,_,underlying67,rfl,rfl,rfl,rfl,rfl,rfl,rfl,rfl,rfl,rfl⟩;have c0:prog.cellsOf 3=1:=by kernel_rfl
 have c1:prog.cellsOf 2=1:=by kernel_rfl
 have c2:prog.cellsOf 9=1:=by kernel_rfl
 have c3:prog.cellsOf 36=1:=by kernel_rfl
 have c4:prog.cellsOf 35=1:=by kernel_rfl
 obtain⟨D,_,ao,cap,Y,Z,hm,hx⟩:=qqo (p:=fun(d:Dt) cs m=>((-9223372036854775808<=d.n/\d.n<=9223372036854775807)/\d.s.length<=m)/\∃iv nv,cs=[zI d.kind,zI d.n,bs d.s,iv,nv]/\qk4 w.heap.size w iv (d.items.map (zI))/\qk4 w.heap.size w nv (d.names.map bs)) (e:=67) (c:=5) (by kernel_rfl) (by kernel_rfl) (by decide) (fun n cs y Z hy=>by
  obtain⟨xs,k,hk,O,_,T,hf⟩:=DataW.trod_struct X hy
  match xs,T,cs,Z with
  |[y0,y1,y2,y3,y4],_,[v0,v1,v2,v3,v4],_=>
    have g0:=hf 0 f0 rfl;have g1:=hf 1 f1 rfl;have g2:=hf 2 f2 rfl;have g3:=hf 3 f3 rfl;have g4:=hf 4 f4 rfl;simp[o0,t0,c0]at g0;simp[o1,t1,c1]at g1;simp[o2,t2,c2]at g2;simp[o3,t3,c3]at g3;simp[o4,t4,c4]at g4;obtain⟨kd,z,_,_⟩:=DataW.trod_int underlying3 g0;obtain⟨m,hm,_,U⟩:=DataW.trod_int underlying2 g1;obtain⟨s,hs,J,_⟩:=DataW.trod_string underlying9 g2;obtain⟨I,hI⟩:=q2y (α:=Int) (zI) (e:=3) (by kernel_rfl) c0 (fun n cs y hy=>(DataW.trod_int underlying3 hy).imp fun _ q=>q.1) g3;obtain⟨S,hS⟩:=q2y (α:=zU) bs (e:=9) (by kernel_rfl) c2 (fun n cs y hy=>by
     obtain⟨s,hs,_⟩:=DataW.trod_string underlying9 hy;exact⟨s.data.toList,hs⟩) g4
    injection z with z _;injection hm with hm _;injection hs with hs _;refine⟨⟨kd,m,s.data.toList,I,S⟩,⟨wf64 U,?_⟩,v3,v4,by rw[z,hm,hs];rfl,hI,hS⟩;have h3:=qmn (d:=y2.1) (l:=[y0,y1,y2,y3,y4].map (·.1)) (by simp);rw[J]at h3;have h4:s.data.toList.length+1<=Rows.uptoBulkAll _:=h3;rw[O];show s.data.toList.length<=Rows.uptoBulkAll _+1;rw[J];omega) h
 refine⟨D,⟨ao,cap,Y,Z,hm,fun V=>?_⟩,fun y hy=>?_⟩
 ·obtain⟨b,o,e1,e2,e3⟩:=hx V
  refine⟨b,o,e1,e2,fun k y hk=>?_⟩;obtain⟨cs,_,_,⟨_,iv,nv,rfl,h6,h7⟩,h5⟩:=e3 k y hk;exact⟨h5 0 _ rfl,h5 1 _ rfl,h5 2 _ rfl,iv,nv,h5 3 _ rfl,h5 4 _ rfl,h6,h7⟩
 ·obtain⟨_,_,_,_,e3⟩:=hx (List.ne_nil_of_mem hy)
  obtain⟨k,hk⟩:=xj hy;obtain⟨_,m,h1,⟨h2,_⟩,_⟩:=e3 k y hk;exact⟨h2.1,yh h2.2 h1⟩
end
end
end Go.Proofs.YtfkhljmiehdgmaaGreatDoor
