/-
  Steps of the proof.
-/
import Derived.Test.YtfkhljmiehdgmaaGreatDoorCuBT
import Derived.WideKeyArgs
set_option maxRecDepth 100000
set_option maxHeartbeats 40000000
namespace Go.Proofs.YtfkhljmiehdgmaaGreatDoor
open Go.RowKit Go.Proofs.Tryz Pl
def quj:zU:=[60,98,32,116,105,116,108,101,61,34,123,123,97,125,125,34,62,123,123,97,125,125,60,47,98,62]
def ze0:zU:=[60,98,32,116,105,116,108,101,61,34,120,38,108,116,59,121,34,62,120,38,108,116,59,121,60,47,98,62]
def qnh:List Dt:=[⟨5,0,[],[1],[[97]]⟩,⟨3,0,[120,60,121],[],[]⟩]
theorem qp6:(qc5 quj []).2=Ft.none:=qxf (by decide +kernel) (by decide +kernel)
def q4i:Ev:=⟨qnh,(qc5 quj []).1.2,(qc5 quj []).1.1,0,-1⟩
theorem q7o:(q4i.page).2=0/\(q4i.page).1.out=ze0/\(q4i.page).1.holes=[(10,16,1),(18,24,1)]:=by
 refine⟨?_,?_,?_⟩<;>decide +kernel
theorem qyv(T:zT)(w:World)(y:KW w)(z:(qc5 T.data.toList []).2=Ft.none) :
  zC 12 #[.string T,zN] w fun ed w'=>(∃g vv,ed=.returned (.tuple #[zP g,.agg #[zI 0,zI 0,zS,zI 0]])/\TplV w' g vv (qc5 T.data.toList []).1)/\zW w w':=by
 refine(qrj qtw T (zN) [] w ⟨none,0,rfl,yg _,yH _,fun h=>absurd rfl h⟩ y.tabs y.ml (qjq _) (fun p D=>by cases D)).mono ?_;rintro ed w' ⟨⟨p,I,_,J⟩,O⟩;have e:qau []=[]:=rfl;rw[e]at I J;rw[z,q53]at I;have U:(qc5 T.data.toList []).2.code=0:=by rw[z];rfl
 have V:=J U;obtain⟨k1,k2,_,_⟩:=qqt T.data.toList [] U ⟨[],(qc5 T.data.toList []).1.2,(qc5 T.data.toList []).1.1,0,0⟩ rfl rfl;obtain⟨g,vv,D,X⟩:=q7d V k2 k1;exact⟨⟨g,vv,by rw[I,D],X⟩,O⟩
theorem q4h:q4i.Small 1000000:=by
 constructor
 ·intro v p y
  have z:(qc5 quj []).2.code=0:=by rw[qp6];rfl
  have:=(qqt quj [] z q4i rfl rfl).2.2.2 v p y;omega
 ·intro a p
  have D:=q9w a (qc7 (qbe qnh p));have I:(qc7 (qbe qnh p)).length<=3:=by
   match p with
   |none=>decide
   |some 0=>decide
   |some 1=>decide
   |some (k+2)=>show(qc7 ((qnh).getD (k+2) Dt.null)).length<=3;simp[qnh,qc7,Dt.null]
  show(qgn a (qc7 (qbe qnh p))).length<=_;omega
theorem q0m(w:World)(D:KW w)(g:Nat)(vv dv:Value)(I:TplV w g vv (qc5 quj []).1)(J:DsAt w.heap.size w dv qnh) :
  zC 19 #[zP g,dv,zI 0,zI (-1)] w fun ed w'=>
   ∃O cap,ed=.returned (.tuple #[.string ⟨ze0.toArray⟩,zF O 2 cap,zI 0])/\(w'.cell? (zO O 0)=some (zI 10)/\w'.cell? (zO O 1)=some (zI 16)/\w'.cell? (zO O 2)=some (zI 1)/\w'.cell? (zO O 3)=some (zI 18))/\zW w w':=by
 have T:(qc5 quj []).2.code=0:=by rw[qp6];rfl
 obtain⟨U,V⟩:=zec D T I qnh 0 (-1) J (by decide) (by omega) (by omega) (fun p=>by
  have X:(qc7 (qbe qnh p)).length<=3:=by
   match p with
   |none=>decide
   |some 0=>decide
   |some 1=>decide
   |some (k+2)=>show(qc7 ((qnh).getD (k+2) Dt.null)).length<=3;simp[qnh,qc7,Dt.null]
  omega) 1000000 (by omega) q4h
 refine(qss U V I.1 q4i.page rfl).mono ?_;rintro ed w' ⟨z,rfl,_,X,Y⟩;obtain⟨p1,p2,p3⟩:=q7o;have y:=X p1;rw[p3]at y;obtain⟨O,cap,Z,_,_⟩:=qai y (by decide);rw[Z]at y;refine⟨O,cap,by rw[p1,p2,Z];rfl,⟨qcs y 0 _ rfl,qcs y 1 _ rfl,qcs y 2 _ rfl,qcs y 3 _ rfl⟩,Y⟩
theorem q7p(w:World)(o:Obj):DsAt ((((w.alloc o).alloc (.cells #[zI 1] 3)).alloc (.cells #[.string ⟨#[97]⟩] 9)).alloc
  (.cells #[zI 5,zI 0,zS,zF (w.heap.size+1) 1 1,zF (w.heap.size+1+1) 1 1,zI 3,zI 0,.string ⟨#[120,60,121]⟩,zN,zN] 67)).heap.size
  ((((w.alloc o).alloc (.cells #[zI 1] 3)).alloc (.cells #[.string ⟨#[97]⟩] 9)).alloc
  (.cells #[zI 5,zI 0,zS,zF (w.heap.size+1) 1 1,zF (w.heap.size+1+1) 1 1,zI 3,zI 0,.string ⟨#[120,60,121]⟩,zN,zN] 67)) (zF (w.heap.size+1+1+1) 2 2) qnh:=by
 obtain⟨w1,I⟩:∃w1,w1=w.alloc o:=⟨_,rfl⟩;have z1:w1.heap.size=w.heap.size+1:=by rw[I,qcf]
 obtain⟨w2,D⟩:∃w2,w2=w1.alloc (.cells #[zI 1] 3):=⟨_,rfl⟩;have z2:w2.heap.size=w.heap.size+1+1:=by rw[D,qcf,z1]
 obtain⟨w3,z⟩:∃w3,w3=w2.alloc (.cells #[.string ⟨#[97]⟩] 9):=⟨_,rfl⟩;have z3:w3.heap.size=w.heap.size+1+1+1:=by rw[z,qcf,z2]
 have b1:w2.heap[w.heap.size+1]?=zK #[zI 1] 3:=by rw[<-z1,D];exact xF w1 _
 have b2:w3.heap[w.heap.size+1+1]?=zK #[.string ⟨#[97]⟩] 9:=by rw[<-z2,z];exact xF w2 _
 have b1':w3.heap[w.heap.size+1]?=zK #[zI 1] 3:=by rw[z,xI w2 _ (by rw[z2];omega)];exact b1
 rw[<-I,<-D,<-z];generalize J:Obj.cells #[zI 5,zI 0,zS,zF (w.heap.size+1) 1 1,zF (w.heap.size+1+1) 1 1,zI 3,zI 0,.string ⟨#[120,60,121]⟩,zN,zN] 67=O;have z4:(w3.alloc O).heap.size=w.heap.size+1+1+1+1:=by rw[qcf,z3]
 have b3:(w3.alloc O).heap[w.heap.size+1+1+1]?=some O:=by rw[<-z3];exact xF w3 _
 have b1:(w3.alloc O).heap[w.heap.size+1]?=zK #[zI 1] 3:=by rw[xI w3 _ (by rw[z3];omega)];exact b1'
 have b2:(w3.alloc O).heap[w.heap.size+1+1]?=zK #[.string ⟨#[97]⟩] 9:=by rw[xI w3 _ (by rw[z3];omega)];exact b2
 have c:=qaa (b3.trans (yE some J.symm));have d1:=qaa b1;have d2:=qaa b2;rw[z4];refine⟨_,2,rfl,by decide,by decide,fun _=>⟨_,_,rfl,by omega,fun k x T=>?_⟩⟩
 match k,T with
 |0,T=>
   injection T with T;subst T;refine⟨c 0 _ rfl,c 1 _ rfl,c 2 _ rfl,_,_,c 3 _ rfl,c 4 _ rfl,⟨_,1,rfl,by decide,fun _=>⟨_,_,rfl,by omega,fun j y U=>?_⟩⟩,⟨_,1,rfl,by decide,fun _=>⟨_,_,rfl,by omega,fun j y U=>?_⟩⟩⟩<;>rw[xf]
   ·exact d1 j y U
   ·exact d2 j y U
 |1,T=>
   injection T with T;subst T;exact⟨c 5 _ rfl,c 6 _ rfl,c 7 _ rfl,_,_,c 8 _ rfl,c 9 _ rfl,qmk _ _,qmk _ _⟩
 |k+2,T=>simp[qnh]at T
theorem q0n{w w1:World}(z:KW w){g:Nat}{vv:Value}(D:TplV w1 g vv (qc5 quj []).1)(I:zW w w1){o:Obj} :
  zC 19 #[zP g,zF (w1.heap.size+1+1+1) 2 2,zI 0,zI (-1)] ((((w1.alloc o).alloc (.cells #[zI 1] 3)).alloc (.cells #[.string ⟨#[97]⟩] 9)).alloc
  (.cells #[zI 5,zI 0,zS,zF (w1.heap.size+1) 1 1,zF (w1.heap.size+1+1) 1 1,zI 3,zI 0,.string ⟨#[120,60,121]⟩,zN,zN] 67)) fun ed w'=>
   ∃I cap,ed=.returned (.tuple #[.string ⟨ze0.toArray⟩,zF I 2 cap,zI 0])/\(w'.cell? (zO I 0)=some (zI 10)/\w'.cell? (zO I 1)=some (zI 16)/\w'.cell? (zO I 2)=some (zI 1)/\w'.cell? (zO I 3)=some (zI 18))/\zW w w':=by
 have J:=q7p w1 o;have y:∀(a b c d:Obj),zW w1 ((((w1.alloc a).alloc b).alloc c).alloc d):=fun a b c d=>((((zB a).alloc (by rw[qcf];omega) b).alloc (by rw[qcf,qcf];omega) c).alloc (by rw[qcf,qcf,qcf];omega) d);have O:=I.trans ((y o (.cells #[zI 1] 3) (.cells #[.string ⟨#[97]⟩] 9) (.cells #[zI 5,zI 0,zS,zF (w1.heap.size+1) 1 1,zF (w1.heap.size+1+1) 1 1,zI 3,zI 0,.string ⟨#[120,60,121]⟩,zN,zN] 67)).mono I.size);refine(q0m _ (z.kept O) g vv _ (D.below (y _ _ _ _)) J).mono ?_;rintro ed w' ⟨h,cap,T,U,V⟩;exact⟨h,cap,T,U,O.trans (V.mono O.size)⟩
theorem zbl(w:World)(z:KW w):zC 17 #[] w (zR (.bool true) w):=by
 have D:=zH z;have I:=zH (fun w z=>qyv ⟨quj.toArray⟩ w z qp6);clear z;go_enter func17,ntmps17
 go_wp2_with (first
  |(go_at_call 19;refine xQ (q0n D.out HV.out HB.out) ?_;rintro ed w2 ⟨J,cap,rfl,⟨c0,c1,c2,c3⟩,y⟩)
  | (go_at_call 12;refine xQ (I.out _ D.out) ?_;rintro ed w1 ⟨⟨g,vv,rfl,O⟩,J⟩;have HV:=zH O;have HB:=zH J;clear O J))
 go_ret
 exact⟨rfl,y⟩
section
open Go.ChangeShapes Go.WideShapes Go.ChangeAt
theorem zhi:prog.globalNamed "stencil/escape.openSchemes"=some 7:=by kernel_rfl
theorem zf1:prog.globalNamed "stencil/escape.swaps"=some 8:=by kernel_rfl
theorem zh7:prog.globalNamed "stencil/escape.escapers"=some 9:=by kernel_rfl
theorem zg0:(prog.globals[7]?).map (·.type)=some 294:=by kernel_rfl
theorem zey:(prog.globals[8]?).map (·.type)=some 298:=by kernel_rfl
theorem zh1:(prog.globals[9]?).map (·.type)=some 301:=by kernel_rfl
theorem zg7:qgl prog 4 294=true:=by kernel_rfl
theorem zfh:qgl prog 4 298=true:=by kernel_rfl
theorem zh3:qgl prog 4 301=true:=by kernel_rfl
theorem zhm:qgf 4 (Rows.laid_stencil_escape_openSchemes (H:=Unit))=qig.toList:=rfl
theorem zga:qgf 4 (Rows.laid_stencil_escape_swaps (H:=Unit))=qez.toList:=rfl
theorem zib:qgf 4 (Rows.laid_stencil_escape_escapers (H:=Unit))=q3n.toList:=rfl
theorem zh4{W:World}(h:laidMetH prog Rows.takenRow.laid W)(z:W.ShapedOpen prog):KW W:=by
 obtain⟨ps,O,_⟩:=(show laidMet prog Rows.takenRow.laid W from h);have T:qzn W:=by
  obtain⟨_,_,_,_,_,_,_,_,_,_,U,_⟩:=O;obtain⟨_,_,_,_,_,_,_,_,_,_,U,_⟩:=U;obtain⟨g',t',cs,fuel,p,q,D,I,y,hd,_,_⟩:=U;have V:prog.globalNamed "internal/strconv.uint64pow10"=some 14:=by kernel_rfl
  have J:(prog.globals[14]?).map (·.type)=some 359:=by kernel_rfl
  obtain rfl:=yk (V.symm.trans D);obtain rfl:=yk (J.symm.trans I);show Lib.TabIs _ _ _ _ _;unfold Lib.TabIs;rw[y,<-Lib.cells_of_tab (zs:=Lib.pow10Tab) (k:=.u64) (e:=313) (n:=20) (by kernel_rfl) (by kernel_rfl) (by kernel_rfl) (by kernel_rfl) hd]
 refine⟨⟨fun j v X=>?_,fun j v X=>?_,fun j v X=>?_,fun j v X=>?_,fun j v X=>?_,fun j v X=>?_,fun j v X=>?_,fun j v X=>?_⟩,q8t z,⟨fun j v X=>?_,fun j v X=>?_,fun j v X=>?_⟩,T,qka (Lib.TabIs.cell T (by kernel_rfl) 0 (by decide))⟩
 ·exact qbv O 7 _ _ rfl _ _ 4 gMt tMt pMt j v (by rw[dMt];exact X)
 ·exact qbv O 8 _ _ rfl _ _ 4 gCt tCt pCt j v (by rw[dCt];exact X)
 ·exact qbv O 9 _ _ rfl _ _ 4 gRd tRd pRd j v (by rw[dRd];exact X)
 ·exact qbv O 10 _ _ rfl _ _ 4 gOt tOt pRd j v (by rw[dOt];exact X)
 ·exact qbv O 11 _ _ rfl _ _ 4 gEs tEs pEs j v (by rw[dEs];exact X)
 ·exact qbv O 13 _ _ rfl _ _ 4 gEl tEl pEl j v (by rw[dEl];exact X)
 ·exact qbv O 14 _ _ rfl _ _ 4 gAt tAt pAt j v (by rw[dAt];exact X)
 ·exact qbv O 12 _ _ rfl _ _ 4 gLe tLe pLe j v (by rw[dLe];exact X)
 ·exact qbv O 4 _ _ rfl _ _ 4 zhi zg0 zg7 j v (by rw[zhm];exact X)
 ·exact qbv O 5 _ _ rfl _ _ 4 zf1 zey zfh j v (by rw[zga];exact X)
 ·exact qbv O 6 _ _ rfl _ _ 4 zh7 zh1 zh3 j v (by rw[zib];exact X)
end
end Go.Proofs.YtfkhljmiehdgmaaGreatDoor
