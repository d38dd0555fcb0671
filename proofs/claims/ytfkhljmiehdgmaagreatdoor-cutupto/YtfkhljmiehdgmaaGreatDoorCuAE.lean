/-
  Steps of the proof.
-/
import Derived.Test.YtfkhljmiehdgmaaGreatDoorCuAD
import Derived.DeepKeys3
import Derived.Maps.AppendAt
import Derived.Deep.RegionLaw
set_option maxRecDepth 100000
set_option maxHeartbeats 40000000
namespace Go.Proofs.YtfkhljmiehdgmaaGreatDoor
open Go.RowKit Go.Proofs.Tryz Pl
theorem qja(b:UInt8)(w:World) :
  zC 131 #[zJ b.toNat] w (zQ (zJ (small b).toNat) w):=by
 by_cases y:qh5 b=true
 ·have H:Hid ((small b).toNat=(b.toNat:Int)+32):=by
   show _=_;unfold small;rw[if_pos y];simp only[qh5,yL,yN]at y;exact add8 b y.2
  have z:b.toNat<=90:=by simp only[qh5,yL,yN]at y;exact y.2
  have D:IntKind.u8.wrap ((b.toNat:Int)+32)=(b.toNat:Int)+32:=by rw[IntKind.wrap_u8];omega
  go_enter func131,ntmps131
  go_wp2_with (go_at_call 181;refine cm (qps b _) ?_)
  go_ret
  exact⟨qal (by rw[H.out]),rfl⟩
 ·have y:qh5 b=false:=ye.2 y
  have H:Hid (small b=b):=by show _=_;unfold small;rw[y];rfl
  go_enter func131,ntmps131
  go_wp2_with (go_at_call 181;refine cm (qps b _) ?_)
  go_ret
  exact⟨qal (by rw[H.out]),rfl⟩
theorem zb4(x:UInt8)(w:World):(convert 82 9 (zF w.heap.size 1 1)).run prog (w.alloc (.cells #[zJ x.toNat] 5))=.ok (.string ⟨#[x]⟩) (w.alloc (.cells #[zJ x.toNat] 5)):=by
 refine run_convert_bytes_back _ 82 9 5 (zO w.heap.size 0) 1 [x] underlying82 underlying5 underlying9 ?_;intro j y
 match j,y with
 |0,_=>simp[Addr.add]
theorem q1b(n:zU)(b:UInt8)(w:World)(y:n.length=9) :
  zC 135 #[.string ⟨n.toArray⟩,zJ b.toNat] w (zQ (.string ⟨(qc8 n b).toArray⟩) w):=by
 have z:(ByteArray.mk n.toArray).size=n.length:=by simp[ByteArray.size]
 have H:Hid (qc8 n b=n):=by show _=_;unfold qc8;rw[if_pos y]
 go_enter func135,ntmps135
 go_wp2
 go_ret
 exact⟨qcl (by rw[H.out]),rfl⟩
theorem q1a(n:zU)(b:UInt8)(w:World)(z:n.length<=9)(D:¬n.length=9) :
  zC 135 #[.string ⟨n.toArray⟩,zJ b.toNat] w fun e w'=>e=.returned (.string ⟨(qc8 n b).toArray⟩)/\w.alloc (.cells #[zJ (small b).toNat] 5)=w':=by
 have I:(ByteArray.mk n.toArray).size=n.length:=by simp[ByteArray.size]
 have H:Hid (qc8 n b=n++[small b]):=by show _=_;unfold qc8;rw[if_neg D]
 have y:=zb4 (small b) w;go_enter func135,ntmps135
 go_wp2_with (go_at_call 131;refine cm (qja b _) ?_)
 go_ret
 exact⟨qcl (by rw[H.out];apply xi;simp),rfl⟩
theorem qgy{n l:zU}(h:(l==n)=true)(y:l=qd1\/l=qg0\/l=qcx\/l=qcz):qaw n=n:=by
 rw[yF]at h;subst h;unfold qaw;rw[if_pos y]
theorem qyk{n:zU}(y:(qd1==n)=false)(z:(qg0==n)=false)(D:(qcx==n)=false)(I:(qcz==n)=false):qaw n=[]:=by
 rw[yf]at y z D I;unfold qaw;rw[if_neg];rintro(e|e|e|e)
 ·exact y e.symm
 ·exact z e.symm
 ·exact D e.symm
 ·exact I e.symm
theorem qvr(n:zU)(w:World)(y:PTabs w) :
  zC 185 #[.string ⟨n.toArray⟩] w (zQ (.string ⟨(qaw n).toArray⟩) w):=by
 have c0:=(qe7 y.el 0 _ rfl).1;have c1:=(qe7 y.el 1 _ rfl).1;have c2:=(qe7 y.el 2 _ rfl).1;have c3:=(qe7 y.el 3 _ rfl).1;simp only[bs,qd1,qg0,qcx,qcz,Nat.mul_zero,Nat.reduceMul]at c0 c1 c2 c3;clear y;go_enter func185,ntmps185
 go_wp2
 go_loop [3,4] (fun _ i=>∃k:Nat,k<=4/\i=zI k/\(1<=k->(qd1==n)=false)/\(2<=k->(qg0==n)=false)/\(3<=k->(qcx==n)=false)/\(4<=k->(qcz==n)=false)) (fun _ i=>4 - (intOf i).toNat)
 case atStart=>exact⟨0,by omega,rfl,by omega,by omega,by omega,by omega⟩
 case round=>
  obtain⟨k,z,rfl,D,I,J,O⟩:=hrel;have T:Hid (1<=k->(qd1==n)=false):=D;have U:Hid (2<=k->(qg0==n)=false):=I;have V:Hid (3<=k->(qcx==n)=false):=J;have X:Hid (4<=k->(qcz==n)=false):=O;clear D I J O;rcases(show k=0\/k=1\/k=2\/k=3\/k=4 by omega)with rfl|rfl|rfl|rfl|rfl
  ·by_cases Y:([116,105,116,108,101]==n)=true
   ·have Z:Hid (qaw n=n):=qgy Y (.inl rfl)
    go_wp2
    go_ret
    exact⟨qcl (by rw[Z.out]),rfl⟩
   ·have Y:=ye.2 Y
    have HQ:Hid ((qd1==n)=false):=Y;go_wp2
    go_round
    case rel=>exact⟨1,by omega,rfl,fun _=>HQ.out,by omega,by omega,by omega⟩
    case measure=>simp[intOf]
  ·by_cases Y:([116,101,120,116,97,114,101,97]==n)=true
   ·have Z:Hid (qaw n=n):=qgy Y (.inr (.inl rfl))
    go_wp2
    go_ret
    exact⟨qcl (by rw[Z.out]),rfl⟩
   ·have Y:=ye.2 Y
    have HQ:Hid ((qg0==n)=false):=Y;go_wp2
    go_round
    case rel=>exact⟨2,by omega,rfl,fun _=>T.out (by omega),fun _=>HQ.out,by omega,by omega⟩
    case measure=>simp[intOf]
  ·by_cases Y:([115,99,114,105,112,116]==n)=true
   ·have Z:Hid (qaw n=n):=qgy Y (.inr (.inr (.inl rfl)))
    go_wp2
    go_ret
    exact⟨qcl (by rw[Z.out]),rfl⟩
   ·have Y:=ye.2 Y
    have HQ:Hid ((qcx==n)=false):=Y;go_wp2
    go_round
    case rel=>exact⟨3,by omega,rfl,fun _=>T.out (by omega),fun _=>U.out (by omega),fun _=>HQ.out,by omega⟩
    case measure=>simp[intOf]
  ·by_cases Y:([115,116,121,108,101]==n)=true
   ·have Z:Hid (qaw n=n):=qgy Y (.inr (.inr (.inr rfl)))
    go_wp2
    go_ret
    exact⟨qcl (by rw[Z.out]),rfl⟩
   ·have Y:=ye.2 Y
    have HQ:Hid ((qcz==n)=false):=Y;go_wp2
    go_round
    case rel=>exact⟨4,by omega,rfl,fun _=>T.out (by omega),fun _=>U.out (by omega),fun _=>V.out (by omega),fun _=>HQ.out⟩
    case measure=>simp[intOf]
  ·have Z:Hid (qaw n=[]):=qyk (T.out (by omega)) (U.out (by omega)) (V.out (by omega)) (X.out (by omega))
   go_wp2
   go_ret
   exact⟨qcl (by rw[Z.out]),rfl⟩
theorem qzs{n:zU}(h:(qd1==n)=true):qad n=⟨19,[],n,0,0,false⟩:=by
 rw[yF]at h;subst h;rfl
theorem qzr{n:zU}(h:(qg0==n)=true):qad n=⟨19,[],n,0,0,false⟩:=by
 rw[yF]at h;subst h;rfl
theorem qzq{n:zU}(h:(qcx==n)=true):qad n=⟨20,[],n,0,0,false⟩:=by
 rw[yF]at h;subst h;rfl
theorem qzp{n:zU}(h:(qcz==n)=true):qad n=⟨28,[],n,0,0,false⟩:=by
 rw[yF]at h;subst h;rfl
theorem q6z{n:zU}(y:(qd1==n)=false)(z:(qg0==n)=false)(D:(qcx==n)=false)(I:(qcz==n)=false):qad n=⟨1,[],[],0,0,false⟩:=by
 rw[yf]at y z D I;have:qav n=1:=by unfold qav;rw[if_neg (Ne.symm y),if_neg (Ne.symm z),if_neg (Ne.symm D),if_neg (Ne.symm I)]
 unfold qad;rw[if_pos this]
def qaf(x:Sx):Array Value:=#[zJ (x.st.mode:Int),bs x.st.name,bs x.st.elem,zI x.st.kind,zI (x.st.read:Int),.bool x.ma.ref,.bool x.st.esc,zI x.ma.hex,zI x.ma.pct,zI x.ma.far]
def qar(x:Sx):Value:=.agg (qaf x)
def qgg(k:Mk)(esc:Bool):Array Value:=#[.bool k.ref,.bool esc,zI k.hex,zI k.pct,zI k.far]
def qu5(k:Mk)(esc:Bool):Value:=.agg (qgg k esc)
theorem q34(n:zU)(w:World)(z:PTabs w) :
  zC 136 #[.string ⟨n.toArray⟩] w fun e w'=>e=.returned (qar ⟨qad n,Mk.none⟩)/\w.alloc (.cells (qaf ⟨qad n,Mk.none⟩) 162)=w':=by
 have y:=fun o=>z.kept ((xL _ w).alloc (yg _) o);have c0:=fun o=>(qe7 (y o).el 0 _ rfl).1;have c1:=fun o=>(qe7 (y o).el 1 _ rfl).1;have c2:=fun o=>(qe7 (y o).el 2 _ rfl).1;have c3:=fun o=>(qe7 (y o).el 3 _ rfl).1;have d0:=fun o=>(qe7 (y o).el 0 _ rfl).2;have d1:=fun o=>(qe7 (y o).el 1 _ rfl).2;have d2:=fun o=>(qe7 (y o).el 2 _ rfl).2;have d3:=fun o=>(qe7 (y o).el 3 _ rfl).2;simp only[bs,qd1,qg0,qcx,qcz,Nat.mul_zero,Nat.reduceMul,Nat.reduceAdd]at c0 c1 c2 c3 d0 d1 d2 d3;clear z y;go_enter func136,ntmps136
 go_wp2
 go_loop [3,4] (fun _ i=>∃k:Nat,k<=4/\i=zI k/\(1<=k->(qd1==n)=false)/\(2<=k->(qg0==n)=false)/\(3<=k->(qcx==n)=false)/\(4<=k->(qcz==n)=false)) (fun _ i=>4 - (intOf i).toNat)
 case atStart=>exact⟨0,by omega,rfl,by omega,by omega,by omega,by omega⟩
 case round=>
  obtain⟨k,D,rfl,I,J,O,T⟩:=hrel;have U:Hid (1<=k->(qd1==n)=false):=I;have V:Hid (2<=k->(qg0==n)=false):=J;have X:Hid (3<=k->(qcx==n)=false):=O;have Y:Hid (4<=k->(qcz==n)=false):=T;clear I J O T;rcases(show k=0\/k=1\/k=2\/k=3\/k=4 by omega)with rfl|rfl|rfl|rfl|rfl
  ·by_cases Z:([116,105,116,108,101]==n)=true
   ·have HV:Hid (qad n=⟨19,[],n,0,0,false⟩):=qzs Z
    go_wp2
    refine qb8 results136 w.heap.size _ _ underlying162 rfl rfl (xF _ _) (by kernel_rfl) rfl ?_;exact⟨yE Ending.returned (by rw[HV.out];rfl),by rw[HV.out];rfl⟩
   ·have Z:=ye.2 Z
    have HQ:Hid ((qd1==n)=false):=Z;go_wp2
    go_round
    case rel=>exact⟨1,by omega,rfl,fun _=>HQ.out,by omega,by omega,by omega⟩
    case measure=>simp[intOf]
  ·by_cases Z:([116,101,120,116,97,114,101,97]==n)=true
   ·have HV:Hid (qad n=⟨19,[],n,0,0,false⟩):=qzr Z
    go_wp2
    refine qb8 results136 w.heap.size _ _ underlying162 rfl rfl (xF _ _) (by kernel_rfl) rfl ?_;exact⟨yE Ending.returned (by rw[HV.out];rfl),by rw[HV.out];rfl⟩
   ·have Z:=ye.2 Z
    have HQ:Hid ((qg0==n)=false):=Z;go_wp2
    go_round
    case rel=>exact⟨2,by omega,rfl,fun _=>U.out (by omega),fun _=>HQ.out,by omega,by omega⟩
    case measure=>simp[intOf]
  ·by_cases Z:([115,99,114,105,112,116]==n)=true
   ·have HV:Hid (qad n=⟨20,[],n,0,0,false⟩):=qzq Z
    go_wp2
    refine qb8 results136 w.heap.size _ _ underlying162 rfl rfl (xF _ _) (by kernel_rfl) rfl ?_;exact⟨yE Ending.returned (by rw[HV.out];rfl),by rw[HV.out];rfl⟩
   ·have Z:=ye.2 Z
    have HQ:Hid ((qcx==n)=false):=Z;go_wp2
    go_round
    case rel=>exact⟨3,by omega,rfl,fun _=>U.out (by omega),fun _=>V.out (by omega),fun _=>HQ.out,by omega⟩
    case measure=>simp[intOf]
  ·by_cases Z:([115,116,121,108,101]==n)=true
   ·have HV:Hid (qad n=⟨28,[],n,0,0,false⟩):=qzp Z
    go_wp2
    refine qb8 results136 w.heap.size _ _ underlying162 rfl rfl (xF _ _) (by kernel_rfl) rfl ?_;exact⟨yE Ending.returned (by rw[HV.out];rfl),by rw[HV.out];rfl⟩
   ·have Z:=ye.2 Z
    have HQ:Hid ((qcz==n)=false):=Z;go_wp2
    go_round
    case rel=>exact⟨4,by omega,rfl,fun _=>U.out (by omega),fun _=>V.out (by omega),fun _=>X.out (by omega),fun _=>HQ.out⟩
    case measure=>simp[intOf]
  ·have HV:Hid (qad n=⟨1,[],[],0,0,false⟩):=q6z (U.out (by omega)) (V.out (by omega)) (X.out (by omega)) (Y.out (by omega))
   go_wp2
   refine qb8 results136 w.heap.size _ _ underlying162 rfl rfl (xF _ _) (by kernel_rfl) rfl ?_;exact⟨yE Ending.returned (by rw[HV.out];rfl),by rw[HV.out];rfl⟩
section
open Go.Maps
def qge(e:En):Value:=.agg (#[.int .i64 e.1]++(qaf e.2))
theorem qem:Keyed prog 180:=Keyed.of_law (deep_law (m:=4) (by decide) (by kernel_rfl) (by kernel_rfl) (by kernel_rfl))
theorem qno:Keyed prog 9:=string_keyed underlying9
theorem qxo(d:Nat)(n:Int)(h:(Lit.int .i64 n).wf=true):prog.keyLits (d+1) 3 [.int .i64 n]=some [.int .i64 n]:=by
 unfold Program.keyLits;simp[underlying3,h]
theorem zfu(d:Nat)(n:Int)(h:(Lit.int .u8 n).wf=true):prog.keyLits (d+1) 158 [.int .u8 n]=some [.int .u8 n]:=by
 unfold Program.keyLits;simp[underlying158,h]
theorem q87(d:Nat)(b:Bool):prog.keyLits (d+1) 4 [.bool b]=some [.bool b]:=by
 unfold Program.keyLits;simp[underlying4]
theorem zd9(d:Nat)(s:zT)(h:s.size<=maxLen):prog.keyLits (d+1) 9 [.string s]=some [.string s.data.toList]:=by
 unfold Program.keyLits;simp[underlying9,h]
theorem qj9:prog.cellsOf 3=1:=by kernel_rfl
theorem q6m:prog.cellsOf 158=1:=by kernel_rfl
theorem qtt:prog.cellsOf 4=1:=by kernel_rfl
theorem qy4:prog.cellsOf 9=1:=by kernel_rfl
theorem qrl:prog.cellsOf 160=5:=by kernel_rfl
theorem ql2:prog.cellsOf 162=10:=by kernel_rfl
theorem qrm:prog.cellsOf 180=11:=by kernel_rfl
theorem zfl(d:Nat)(r e:Bool)(a b c:Int)(y:(Lit.int .i64 a).wf=true)(z:(Lit.int .i64 b).wf=true)(D:(Lit.int .i64 c).wf=true):∃l,prog.keyLits (d+2) 160 [.bool r,.bool e,.int .i64 a,.int .i64 b,.int .i64 c]=some l:=by
 unfold Program.keyLits;simp only[underlying160];simp[qrl,qj9,qtt,qxo,q87,y,z,D]
theorem q7u(d:Nat)(m:Int)(n e:zT)(k rd:Int)(r es:Bool)(a b c:Int)(y:(Lit.int .u8 m).wf=true)(z:n.size<=maxLen)(D:e.size<=maxLen)(I:(Lit.int .i64 k).wf=true)(J:(Lit.int .i64 rd).wf=true)(O:(Lit.int .i64 a).wf=true)(T:(Lit.int .i64 b).wf=true)(U:(Lit.int .i64 c).wf=true) :
  ∃l,prog.keyLits (d+3) 162 [.int .u8 m,.string n,.string e,.int .i64 k,.int .i64 rd,.bool r,.bool es,.int .i64 a,.int .i64 b,.int .i64 c]=some l:=by
 obtain⟨l,V⟩:=zfl d r es a b c O T U;unfold Program.keyLits;simp only[underlying162];simp[ql2,qrl,qj9,q6m,qy4,qxo,zfu,zd9,y,z,D,I,J,V]
theorem qz7{x:Sx}(h:SxOk x):(Lit.int .u8 x.st.mode).wf=true/\x.st.name.length<=9/\x.st.elem.length<=8/\(Lit.int .i64 x.st.kind).wf=true/\(Lit.int .i64 (x.st.read:Int)).wf=true/\(Lit.int .i64 x.ma.hex).wf=true/\(Lit.int .i64 x.ma.pct).wf=true:=by
 have y:=h.st.hi;have z:=h.st.name;have D:=h.st.wrap;have I:=h.st.read;have J:=h.ma.hex;have O:=h.ma.pct;have T:x.st.elem.length<=8:=by
  rcases h.st.elem with e|e|e|e|e<;>rw[e]<;>decide
 have U:x.st.read<=10:=by
  have:x.st.ending.length=x.st.elem.length+2:=rfl;omega
 exact⟨WalkArith.wf_u8 (by omega),z,T,WalkArith.wf_i64 (by omega),WalkArith.wf_i64 (by omega),WalkArith.wf_i64 (by omega),WalkArith.wf_i64 (by omega)⟩
theorem qtj{e:En}(h:SxOk e.2)(D:0<=e.2.ma.far/\e.2.ma.far<=3)(I:e.1<=6):∃l,keyOf prog 180 (qge e)=some l:=by
 obtain⟨J,O,T,U,V,X,Y⟩:=qz7 h;obtain⟨d,Z⟩:∃d,prog.types.size+1=(d+3)+1:=⟨prog.types.size - 3,by
  have:4<=prog.types.size:=by decide +kernel
  omega⟩
 obtain⟨l,hl⟩:=q7u d e.2.st.mode ⟨e.2.st.name.toArray⟩ ⟨e.2.st.elem.toArray⟩ e.2.st.kind e.2.st.read e.2.ma.ref e.2.st.esc e.2.ma.hex e.2.ma.pct e.2.ma.far J (by simp[ByteArray.size];unfold maxLen;omega) (by simp[ByteArray.size];unfold maxLen;omega) U V X Y (WalkArith.wf_i64 (by omega));have hk:prog.keyType 180=true:=by kernel_rfl
 have z:(qge e).formed prog 180=true:=by
  unfold qge Value.formed;simp[underlying180,qrm,qaf]
 unfold keyOf;simp only[underlying180];rw[hk,z,Z];unfold Program.keyLits;simp only[underlying180];have y:(Lit.int .i64 (e.1:Int)).wf=true:=WalkArith.wf_i64 (by omega);unfold qge qaf bs;simp[Value.cells,qrm,ql2,qj9,qxo,y,hl]
end
namespace Pl
variable{x:Sx}{e:En}{n:Nat}
structure SxFit(x:Sx):Prop where
 ok:SxOk x
 far:0<=x.ma.far/\x.ma.far<=3
theorem qmi:SxFit Sx.start:=⟨qkj,by decide⟩
theorem qvj(kind:Int)(m:Nat)(far:Int)(b:UInt8)(h:0<=far/\far<=3):0<=qdt kind m far b/\qdt kind m far b<=3:=by
 unfold qdt
 repeat' split
 all_goals omega
theorem qpc:(0:Int)<=Mk.none.far/\Mk.none.far<=3:=by decide
theorem qvl(m:Nat)(e:Bool)(b:UInt8):0<=(qa7 m e b).far/\(qa7 m e b).far<=3:=by
 unfold qa7;split
 ·exact qpc
 ·split
  ·exact⟨Int.le_refl _,by simp⟩
  ·exact qpc
theorem qzb(s:St)(k:Mk)(b:UInt8)(h:0<=k.far/\k.far<=3):0<=(qe8 s k b).far/\(qe8 s k b).far<=3:=by
 unfold qe8 qls qms;split
 ·exact qpc
 ·split
  ·exact qvl _ _ _
  ·split
   ·unfold qch
    simp only;split
    ·exact qvj _ _ _ _ h
    ·omega
   ·exact qpc
theorem qtv(b:UInt8)(h:SxFit x):SxFit (x.behind b):=⟨qlk b h.ok,qzb _ _ b h.far⟩
theorem qku(l:zU):∀x:Sx,SxFit x->SxFit (qax x l):=by
 induction l with
 |nil=>intro x h;exact h
 |cons b l ih=>intro x h;exact ih _ (qtv b h)
theorem qmy(h:SxFit x):SxFit x.behindHole:=by
 refine⟨qi9 x h.ok,?_⟩;unfold Sx.behindHole;split
 ·exact⟨by simp,by simp⟩
 ·exact h.far
def qv7(x:Sx):Prop:=x=Sx.none\/SxFit x
theorem qq9(h:qv7 x)(y:¬x.isNone=true):SxFit x:=by
 rcases h with rfl|h
 ·exact absurd rfl y
 ·exact h
section
variable {α:Type}
theorem qg3{l:List (En×α)}{v:α}(h:qa9 l e=some v):(e,v)∈l:=by
 induction l with
 |nil=>cases h
 |cons p l ih=>
   obtain⟨k,u⟩:=p;unfold qa9 at h;split at h
   ·rename_i y
    injection h with h;subst h y;simp
   ·exact yX _ (ih h)
theorem qly{l:List (En×α)}(h:qa9 l e=Option.none):∀p∈l,p.1≠e:=by
 induction l with
 |nil=>intro p y;cases y
 |cons p l ih=>
   obtain⟨k,u⟩:=p;unfold qa9 at h;split at h
   ·cases h
   ·rename_i z
    intro q D;rcases xt.1 D with rfl|D
    ·exact z
    ·exact ih h q D
theorem qfg{l:List (En×α)}(h:qa9 l e=Option.none)(v:α):qbi l e v=l++[(e,v)]:=by
 induction l with
 |nil=>rfl
 |cons p l ih=>
   obtain⟨k,u⟩:=p;unfold qa9 at h;split at h
   ·cases h
   ·rename_i y
    unfold qbi;rw[if_neg y,ih h];rfl
theorem qif{l:List (En×α)}{u:α}(h:qa9 l e=some u)(v:α):∃i,l[i]?=some (e,u)/\qbi l e v=l.set i (e,v):=by
 induction l with
 |nil=>cases h
 |cons p l ih=>
   obtain⟨k,w⟩:=p;unfold qa9 at h;split at h
   ·rename_i y
    injection h with h;subst h y;refine⟨0,rfl,?_⟩;unfold qbi;rw[if_pos rfl];rfl
   ·rename_i y
    obtain⟨i,z,D⟩:=ih h;refine⟨i+1,by simpa using z,?_⟩;unfold qbi;rw[if_neg y,D];rfl
theorem qg2(l:List (En×α))(e:En)(v:α)(e':En):qa9 (qbi l e v) e'=if e=e' then some v else qa9 l e':=by
 induction l with
 |nil=>rfl
 |cons p l ih=>
   obtain⟨k,u⟩:=p;unfold qbi;by_cases y:k=e
   ·rw[if_pos y]
    subst y;unfold qa9;split
    ·rfl
    ·rfl
   ·rw[if_neg y]
    unfold qa9;rw[ih];by_cases z:k=e'
    ·rw[if_pos z,if_pos z,if_neg (fun h=>y (z.trans h.symm))]
    ·rw[if_neg z,if_neg z]
theorem qsu(l:List (En×α))(e:En)(v:α):(qbi l e v).length=if qa9 l e=Option.none then l.length+1 else l.length:=by
 split
 ·rename_i h;rw[qfg h];simp
 ·rename_i h
  cases y:qa9 l e with
  |none=>exact absurd y h
  |some u=>obtain⟨i,_,z⟩:=qif y v;rw[z];simp
def ql6(l:List (En×α)):Prop:=∀(i j:Nat) (p q:En×α),l[i]?=some p->l[j]?=some q->p.1=q.1->i=j
theorem qqz{l:List (En×α)}(h:ql6 l)(e:En)(v:α):ql6 (qbi l e v):=by
 cases D:qa9 l e with
 |none=>
   rw[qfg D];have I:=qly D;intro i j p q J O y;rw[yI]at J O;split at J<;>split at O
   ·exact h i j p q J O y
   ·exfalso
    rename_i T U;have:j - l.length=0:=by
     have:=(yb.1 O).1;simp at this;omega
    rw[this]at O;simp at O;subst O;exact I p (yl J) y
   ·exfalso
    have:i - l.length=0:=by
     have:=(yb.1 J).1;simp at this;omega
    rw[this]at J;simp at J;subst J;exact I q (yl O) y.symm
   ·have T:=(yb.1 J).1
    have U:=(yb.1 O).1;simp at T U;omega
 |some u=>
   obtain⟨k,T,U⟩:=qif D v;rw[U];intro i j p q J O y;have fix:∀(i:Nat) (p:En×α),(l.set k (e,v))[i]?=some p->∃p',l[i]?=some p'/\p'.1=p.1:=by
    intro i p J;rw[List.getElem?_set]at J;split at J
    ·rename_i z
     subst z;split at J
     ·injection J with J;subst J;exact⟨_,T,rfl⟩
     ·cases J
    ·exact⟨p,J,rfl⟩
   obtain⟨p',e1,e2⟩:=fix i p J;obtain⟨q',e3,e4⟩:=fix j q O;exact h i j p' q' e1 e3 (by rw[e2,e4,y])
theorem qnp{l:List (En×α)}{v:α}{p:En×α}(h:p∈qbi l e v):p=(e,v)\/p∈l:=by
 cases y:qa9 l e with
 |none=>rw[qfg y]at h;simp at h;exact h.symm
 |some u=>
   obtain⟨k,z,D⟩:=qif y v;rw[D]at h;rcases List.mem_or_eq_of_mem_set h with h|h
   ·exact .inr h
   ·exact .inl h
end
structure EndsOk(n:Nat)(l:List (En×Sx)):Prop where
 key:∀p∈l,SxFit p.1.2/\1<=p.1.1/\p.1.1<n
 val:∀p∈l,qv7 p.2
 one:ql6 l
 few:l.length<=256
theorem q59(n:Nat):EndsOk n []:=⟨fun _ h=>(by cases h),fun _ h=>(by cases h),fun i j p q h=>(by simp at h),by decide⟩
theorem qkv{l:List (En×Sx)}(h:EndsOk n l){e:En}{v:Sx}(y:SxFit e.2/\1<=e.1/\e.1<n)(z:qv7 v)(D:(qbi l e v).length<=256):EndsOk n (qbi l e v):=
 ⟨fun p I=>(qnp I).elim (fun q=>q▸y) (h.key p),fun p I=>(qnp I).elim (fun q=>q▸z) (h.val p),qqz h.one e v,D⟩
theorem qsw(n:zU):∀(l:List Src) (i:Nat),qh4 n i l=0\/(i<=qh4 n i l/\qh4 n i l<i+l.length)
 |[],i=>.inl rfl
 |s::l,i=>by
   unfold qh4;split
   ·exact .inr ⟨yg _,by simp⟩
   ·rcases qsw n l (i+1)with h | h
    ·exact .inl h
    ·exact .inr ⟨by omega,by simp;omega⟩
theorem qfh(S:List Src)(n:zU)(h:qaj S n≠0):1<=qaj S n/\qaj S n<S.length:=by
 unfold qaj at h |-;rcases qsw n (S.drop 1) 1 with q|q
 ·exact absurd q h
 ·rw[yM]at q;omega
structure Grew(n:Nat)(s s':Sr):Prop where
 ok:EndsOk n s'.ends
 more:s.ends.length<=s'.ends.length
 has:∀e,qa9 s.ends e≠Option.none->qa9 s'.ends e≠Option.none
 nums:s'.nums=s.nums
 vis:s'.vis=s.vis
 fault:s'.fault=s.fault\/s'.fault=qtd
theorem Grew.refl{s:Sr}(h:EndsOk n s.ends):Grew n s s:=⟨h,yg _,fun _ h=>h,rfl,rfl,.inl rfl⟩
theorem Grew.trans{a b c:Sr}(h:Grew n a b)(k:Grew n b c):Grew n a c:=
 ⟨k.ok,yh h.more k.more,fun e q=>k.has e (h.has e q),k.nums.trans h.nums,k.vis.trans h.vis,by
  rcases k.fault with q|q
  ·rw[q];exact h.fault
  ·exact .inr q⟩
def zhx(n:Nat)(beh:Sr->zU->Sx->Sr×Sx)(m:Nat):Prop:=∀s t x,EndsOk n s.ends->m<=s.ends.length->SxFit x->Grew n s (beh s t x).1/\qv7 (beh s t x).2
theorem qo6{m:Nat}{beh:Sr->zU->Sx->Sr×Sx}(y:zhx n beh m)(P:List Pt):∀(k a:Nat) (s:Sr) (x:Sx),EndsOk n s.ends->m<=s.ends.length->qv7 x->Grew n s (qd7 beh P k a s x).1/\qv7 (qd7 beh P k a s x).2:=by
 intro k
 induction k with
 |zero=>intro a s x h _ z;exact⟨Grew.refl h,z⟩
 |succ k ih=>
   intro a s x h D z;unfold qd7;by_cases I:x.isNone=true
   ·rw[if_pos I];exact⟨Grew.refl h,z⟩
   rw[if_neg I];have J:=qq9 z I;cases O:P[a]? with
   |none=>exact⟨Grew.refl h,z⟩
   |some p=>
     simp only;split
     ·exact ih _ s _ h D (.inr (qku _ _ J))
     ·split
      ·exact ih _ s _ h D (.inr (qmy J))
      ·split
       ·exact ih _ s _ h D z
       ·split
        ·obtain⟨T,U⟩:=y s p.text x h D J
         obtain⟨V,X⟩:=ih (a+1) _ _ T.ok (yh D T.more) U;exact⟨T.trans V,X⟩
        ·exact ih _ s _ h D z
theorem quz:qv7 Sx.none:=.inl rfl
theorem qke(S:List Src):∀(k m:Nat),257<=m+k->zhx S.length (behV S k) m:=by
 intro k
 induction k with
 |zero=>
   intro m U s t x h V X;have:=h.few;omega
 |succ k ih=>
   intro m U s t x h V X;unfold behV;by_cases Y:qaj S t=0
   ·rw[if_pos Y];exact⟨Grew.refl h,.inr X⟩
   rw[if_neg Y];have O:=qfh S t Y;cases Z:qa9 s.ends (qaj S t,x)with
   |some e=>exact⟨Grew.refl h,h.val _ (qg3 Z)⟩
   |none=>
     simp only;by_cases y:s.ends.length=256
     ·rw[if_pos y]
      exact⟨⟨h,yg _,fun _ q=>q,rfl,rfl,.inr rfl⟩,quz⟩
     rw[if_neg y];have D:(qbi s.ends (qaj S t,x) Sx.none).length=s.ends.length+1:=by rw[qfg Z];simp
     have I:EndsOk S.length (qbi s.ends (qaj S t,x) Sx.none):=qkv h ⟨X,O⟩ quz (by have:=h.few;omega);obtain⟨g1,g2⟩:=qo6 (ih (s.ends.length+1) (by omega)) (qah S (qaj S t)) ((qah S (qaj S t)).length+1) 0 { s with ends:=qbi s.ends (qaj S t,x) Sx.none } x I (by show s.ends.length+1<=(qbi _ _ _).length;omega) (.inr X);generalize qd7 (behV S k) (qah S (qaj S t)) ((qah S (qaj S t)).length+1) 0 { s with ends:=qbi s.ends (qaj S t,x) Sx.none } x=r at g1 g2 |-;have T:s.ends.length+1<=r.1.ends.length:=by have:=g1.more;rw[show({ s with ends:=qbi s.ends (qaj S t,x) Sx.none }:Sr).ends.length=s.ends.length+1 from D]at this;exact this
     have J:qa9 r.1.ends (qaj S t,x)≠Option.none:=g1.has _ (by show qa9 (qbi _ _ _) _≠_;rw[qg2,if_pos rfl];simp);have z:(qbi r.1.ends (qaj S t,x) r.2).length=r.1.ends.length:=by rw[qsu,if_neg J]
     refine⟨⟨qkv g1.ok ⟨X,O⟩ g2 (by rw[z];exact g1.ok.few),?_,?_,g1.nums,g1.vis,g1.fault⟩,g2⟩
     ·show s.ends.length<=(qbi _ _ _).length;omega
     ·intro e he
      show qa9 (qbi _ _ _) e≠_;rw[qg2];split
      ·simp
      ·refine g1.has e ?_
       show qa9 (qbi _ _ _) e≠_;rw[qg2];split
       ·simp
       ·exact he
end Pl
variable{w w' w0:World}{B n k g:Nat}{v vp vo vp':Value}{xs:List Value}{c:Ct}
def qc4(p:Pt):List Value:=[zI p.kind,zI p.pos,bs p.text,zI p.mate]
def qbp(L:List Pt):List Value:=L.flatMap qc4
theorem q0x(L:List Pt):(qbp L).length=L.length*4:=by
 induction L with
 |nil=>rfl
 |cons p L ih=>show(qbp L).length+4=_;rw[ih,yK];omega
theorem qw3(L:List Pt)(p:Pt):qbp (L++[p])=qbp L++qc4 p:=by simp[qbp]
theorem qeq:∀(L:List Pt) (k:Nat) (p:Pt),L[k]?=some p->∀(j:Nat) (v:Value),(qc4 p)[j]?=some v->(qbp L)[k*4+j]?=some v
 |[],k,p,e=>by simp at e
 |q::L,0,p,e=>by
   simp only[yS,Option.some.injEq]at e;subst e;intro j v y;show(qc4 q++qbp L)[0*4+j]?=some v;rw[Nat.zero_mul,xf,yr (yb.1 y).1];exact y
 |q::L,k+1,p,e=>by
   intro j v y;have:=qeq L k p (by simpa using e) j v y;show(qc4 q++qbp L)[(k+1)*4+j]?=some v;rw[yt (by simp[qc4];omega)];have e:(k+1)*4+j - (qc4 q).length=k*4+j:=by simp[qc4];omega
   rw[e];exact this
theorem qoh:∀(L:List Pt) (m n:Nat),m<L.length->(qbp L).set (m*4+3) (zI n)=qbp (qbd L m n)
 |[],m,n,h=>by simp at h
 |q::L,0,n,_=>rfl
 |q::L,m+1,n,h=>by
   have ih:=qoh L m n (by simpa using h);have e:qbd (q::L) (m+1) n=q::qbd L m n:=by simp[qbd]
   rw[e];show(qc4 q++qbp L).set ((m+1)*4+3) _=qc4 q++qbp (qbd L m n);rw[List.set_append_right _ _ (by simp[qc4];omega)];have e2:(m+1)*4+3 - (qc4 q).length=m*4+3:=by simp[qc4];omega
   rw[e2,ih]
def qb0(L:List Nat):List Value:=L.map fun(n:Nat)=>Value.int .i64 (n:Int)
theorem qab{e:TypeId}(h:w.ownsRow B e k v n xs)(z:∀g,v.ownBlock=some g->w'.heap[g]?=w.heap[g]?):w'.ownsRow B e k v n xs:=by
 refine⟨h.1,?_⟩;rcases h.2 with D|⟨g,cap,cur,I,y,J,rest⟩
 ·exact .inl D
 ·exact .inr ⟨g,cap,cur,I,y,(z g (by rw[I];rfl)).trans J,rest⟩
theorem qac{e:TypeId}(h:w.ownsRow B e k v n xs)(g:Nat)(y:v.ownBlock=some g):∃cur,w.heap[g]?=zK cur e:=by
 rcases h.2 with⟨rfl,_⟩|⟨g',cap,cur,rfl,_,z,_⟩
 ·simp[Value.ownBlock]at y
 ·simp[Value.ownBlock]at y
  subst y;exact⟨cur,z⟩
theorem qai{e:TypeId}(h:w.ownsRow B e k v n xs)(z:0<n):∃g cap,v=zF g n cap/\B<=g/\g<w.heap.size:=by
 rcases h.2 with⟨_,D⟩|⟨g,cap,cur,I,y,J,rest⟩
 ·omega
 ·exact⟨g,cap,I,y,(ya.1 J).1⟩
theorem qjt{e:TypeId}{cap:Nat}(h:w.ownsRow B e k (zF g n cap) n xs)(m:Nat)(D:m<=n):w.ownsRow B e k (zF g m cap) m (xs.take (m*k)):=by
 have y:m*k<=n*k:=xE k D;refine⟨by rw[yP,h.1];omega,?_⟩;rcases h.2 with⟨I,_⟩|⟨g',cap',cur,J,z,O,T,U,V,X⟩
 ·cases I
 ·injection J with e1 e2 e3
  injection e1 with e1;injection e1 with e1;subst e1 e3;exact .inr ⟨g,cap,cur,rfl,z,O,by omega,U,V,by rw[<-X,List.take_take,Nat.min_eq_left y]⟩
structure CtAt(w:World)(B g:Nat)(t:zU)(c:Ct)(vp vo:Value):Prop where
 blk:w.heap[g]?=zK #[bs t,bs c.op,bs c.cl,vp,vo] 222
 parts:w.ownsRow B 229 4 vp c.parts.length (qbp c.parts)
 opened:w.ownsRow B 3 1 vo c.opened.length (qb0 c.opened)
 le:B<=g
structure Cur(B g:Nat)(w w':World):Prop where
 below:Below B w w'
 keep:∀k cs t fz,w.heap[k]?=some (.cells cs t fz)->k≠g->t≠229->t≠3->w'.heap[k]?=w.heap[k]?
theorem Cur.refl(B g:Nat)(w:World):Cur B g w w:=⟨xL _ _,fun _ _ _ _ _ _ _ _=>rfl⟩
theorem Cur.trans{a b c:World}(h:Cur B g a b)(k:Cur B g b c):Cur B g a c:=
 ⟨h.below.trans k.below,fun i cs t fz y z D I=>(k.keep i cs t fz ((h.keep i cs t fz y z D I).trans y) z D I).trans (h.keep i cs t fz y z D I)⟩
theorem Cur.of_below(h:zW w w')(y:B<=w.heap.size):Cur B g w w':=
 ⟨h.mono y,fun k _ _ _ z _ _ _=>h.block k (ya.1 z).1⟩
theorem CtAt.lt{t:zU}(h:CtAt w B g t c vp vo):g<w.heap.size:=(zL h.blk)
theorem CtAt.kept{t:zU}(h:CtAt w B g t c vp vo)(y:∀k,k<w.heap.size->w'.heap[k]?=w.heap[k]?):CtAt w' B g t c vp vo:=
 ⟨(y g h.lt).trans h.blk,qab h.parts fun k z=>y k (h.parts.lt k z).2,qab h.opened fun k z=>y k (h.opened.lt k z).2,h.le⟩
theorem CtAt.below{t:zU}(h:CtAt w B g t c vp vo)(y:zW w w'):CtAt w' B g t c vp vo:=h.kept y.block
theorem CtAt.alloc{t:zU}(h:CtAt w B g t c vp vo)(o:Obj):CtAt (w.alloc o) B g t c vp vo:=h.kept fun _ y=>xI w o y
theorem CtAt.cell{t:zU}(h:CtAt w B g t c vp vo):∀(j:Nat) (v:Value),[bs t,bs c.op,bs c.cl,vp,vo][j]?=some v->w.cell? (zO g j)=some v:=fun j v y=>qaa h.blk j v y
theorem CtAt.thaw{t:zU}(h:CtAt w B g t c vp vo)(j:Nat):w.frozen? (zO g j)=false:=by simp[World.frozen?,h.blk]
theorem qf0:(222:TypeId)≠229:=by decide
theorem qic:(222:TypeId)≠3:=by decide
theorem qli:(229:TypeId)≠3:=by decide
theorem qae{l:Nat}{cs cs':Array Value}{t t':TypeId}{fz fz':Nat×Nat}(h:w.heap[k]?=some (.cells cs t fz))(z:w.heap[l]?=some (.cells cs' t' fz'))(y:t≠t'):k≠l:=by
 rintro rfl;rw[h]at z;simp only[Option.some.injEq,Obj.cells.injEq]at z;exact y z.2.1
theorem CtAt.more{t:zU}(h:CtAt w B g t c vp vo)(p:Pt)(D:w'.ownsRow B 229 4 vp' (c.parts.length+1) (qbp c.parts++qc4 p))(y:w.grownBy w' vp.ownBlock) :
  CtAt (w'.setCell (zO g 3) vp') B g t { c with parts:=c.parts++[p] } vp' vo/\Cur B g w (w'.setCell (zO g 3) vp'):=by
 have J:∀k,vp.ownBlock=some k->g≠k:=fun k X=>by
  obtain⟨cur,Y⟩:=qac h.parts k X;exact qae h.blk Y qf0
 have O:∀k l,vo.ownBlock=some k->vp.ownBlock=some l->k≠l:=fun k l X Z=>by
  obtain⟨cur,Y⟩:=qac h.opened k X;obtain⟨cur',T⟩:=qac h.parts l Z;exact fun e=>qae T Y qli e.symm
 have I:w'.heap[g]?=zK #[bs t,bs c.op,bs c.cl,vp,vo] 222:=(y.block g h.lt (fun e=>J g e.symm rfl)).trans h.blk;have z:∀k,k≠g->(w'.setCell (zO g 3) vp').heap[k]?=w'.heap[k]?:=fun k X=>xK _ _ _ _ X;have U:∀k,vp'.ownBlock=some k->k≠g:=fun k X=>by
  obtain⟨cur,Y⟩:=qac D k X;exact fun e=>qae I Y qf0 e.symm
 refine⟨⟨?_,?_,?_,h.le⟩,⟨?_,?_⟩⟩
 ·rw[xG _ _ _ _ _ _ I];rfl
 ·have e:({ c with parts:=c.parts++[p] }:Ct).parts.length=c.parts.length+1:=by simp
  rw[e];show World.ownsRow _ _ _ _ _ _ (qbp (c.parts++[p]));rw[qw3];exact qab D fun k X=>z k (U k X)
 ·refine qab h.opened fun k X=>?_
  have V:=(h.opened.lt k X).2;obtain⟨cur,Y⟩:=qac h.opened k X;refine(z k (fun e=>qae h.blk Y qic e.symm)).trans (y.block k V (fun e=>O k k X e.symm rfl))
 ·refine Below.trans ⟨y.os,y.tape,y.output,y.size,fun k X=>y.block k (by have:=h.lt;have:=h.le;omega) (fun e=>by have:=(h.parts.lt k e.symm).1;omega)⟩ ((xL _ _).setCell (p:=zO g 3) h.le _)
 ·intro k cs ty fz X h1 h2 h3
  refine(z k h1).trans (y.block k (ya.1 X).1 (fun e=>?_));obtain⟨cur,Y⟩:=qac h.parts k e.symm;exact qae X Y h2 rfl
theorem CtAt.push{t:zU}{vo':Value}(h:CtAt w B g t c vp vo)(n:Nat)(D:w'.ownsRow B 3 1 vo' (c.opened.length+1) (qb0 c.opened++[zI n]))(y:w.grownBy w' vo.ownBlock) :
  CtAt (w'.setCell (zO g 4) vo') B g t { c with opened:=c.opened++[n] } vp vo'/\Cur B g w (w'.setCell (zO g 4) vo'):=by
 have J:∀k,vo.ownBlock=some k->g≠k:=fun k X=>by
  obtain⟨cur,Y⟩:=qac h.opened k X;exact qae h.blk Y qic
 have O:∀k l,vp.ownBlock=some k->vo.ownBlock=some l->k≠l:=fun k l X Z=>by
  obtain⟨cur,Y⟩:=qac h.parts k X;obtain⟨cur',T⟩:=qac h.opened l Z;exact qae Y T qli
 have I:w'.heap[g]?=zK #[bs t,bs c.op,bs c.cl,vp,vo] 222:=(y.block g h.lt (fun e=>J g e.symm rfl)).trans h.blk;have z:∀k,k≠g->(w'.setCell (zO g 4) vo').heap[k]?=w'.heap[k]?:=fun k X=>xK _ _ _ _ X;have U:∀k,vo'.ownBlock=some k->k≠g:=fun k X=>by
  obtain⟨cur,Y⟩:=qac D k X;exact fun e=>qae I Y qic e.symm
 refine⟨⟨?_,?_,?_,h.le⟩,⟨?_,?_⟩⟩
 ·rw[xG _ _ _ _ _ _ I];rfl
 ·refine qab h.parts fun k X=>?_
  have V:=(h.parts.lt k X).2;obtain⟨cur,Y⟩:=qac h.parts k X;refine(z k (fun e=>qae h.blk Y qf0 e.symm)).trans (y.block k V (fun e=>O k k X e.symm rfl))
 ·have e:({ c with opened:=c.opened++[n] }:Ct).opened.length=c.opened.length+1:=by simp
  rw[e];have e2:qb0 ({ c with opened:=c.opened++[n] }:Ct).opened=qb0 c.opened++[zI n]:=by simp[qb0]
  rw[e2];exact qab D fun k X=>z k (U k X)
 ·refine Below.trans ⟨y.os,y.tape,y.output,y.size,fun k X=>y.block k (by have:=h.lt;have:=h.le;omega) (fun e=>by have:=(h.opened.lt k e.symm).1;omega)⟩ ((xL _ _).setCell (p:=zO g 4) h.le _)
 ·intro k cs ty fz X h1 h2 h3
  refine(z k h1).trans (y.block k (ya.1 X).1 (fun e=>?_));obtain⟨cur,Y⟩:=qac h.opened k e.symm;exact qae X Y h3 rfl
structure CtTo(w w':World)(B g:Nat)(t:zU)(c:Ct):Prop where
 ex:∃vp vo,CtAt w' B g t c vp vo
 cur:Cur B g w w'
theorem qcn(w:World)(cs:List Value)(t:TypeId):∀(j:Nat) (u:Value),cs[j]?=some u->(w.alloc (.cells cs.toArray t)).cell? (((zO w.heap.size 0):Addr).add j)=some u:=by
 intro j u y;have:((zO w.heap.size 0):Addr).add j=(zO w.heap.size j):=by simp only[Addr.add,xf];split<;>simp_all
 rw[this];exact qaa (xF w _) j u (by simpa using y)
theorem CtAt.ahead{t:zU}(h:CtAt w B g t c vp vo)(z:zW w w0){row:Option Nat}(y:row=vp.ownBlock\/row=vo.ownBlock)(D:w0.grownBy w' row)(j:Nat)(v:Value)(J:[bs t,bs c.op,bs c.cl,vp,vo][j]?=some v):w'.cell? (zO g j)=some v/\w'.frozen? (zO g j)=false:=by
 have I:some g≠row:=by
  rintro rfl;rcases y with e|e
  ·obtain⟨cur,O⟩:=qac h.parts g e.symm
   exact qae h.blk O qf0 rfl
  ·obtain⟨cur,O⟩:=qac h.opened g e.symm
   exact qae h.blk O qic rfl
 have T:w'.heap[g]?=zK #[bs t,bs c.op,bs c.cl,vp,vo] 222:=(D.block g (yi h.lt z.size) I).trans ((z.block g h.lt).trans h.blk);exact⟨qaa T j v J,by simp[World.frozen?,T]⟩
theorem CtAt.moreTo{t:zU}(h:CtAt w B g t c vp vo)(z:zW w w0)(p:Pt)(y:w'.ownsRow B 229 4 vp' (c.parts.length+1) (qbp c.parts++qc4 p))(D:w0.grownBy w' vp.ownBlock) :
  CtTo w (w'.setCell (zO g 3) vp') B g t { c with parts:=c.parts++[p] }:=by
 obtain⟨I,J⟩:=(h.below z).more p y D;exact⟨⟨_,_,I⟩,(Cur.of_below z (yh h.le (yj h.lt))).trans J⟩
theorem qa6{P:Program}{ops:Array Oper}{o:Oper}{a:Act}{K:Act->World->Prop}{Q:Exit->Act->World->Prop}{E:Prop}
  (Z:o.guard=none) (s x:Operand) (t:TypeId) (T:o.op=Op.call { callee:=Callee.builtin Builtin.append,args:=#[s,x],argTypes:=#[t,t] })
  (base:Nat) (e:TypeId) (i:TypeInfo) (z:Value) (size bytes:Nat) (ht:P.underlying t=some (.slice e)) (hi:P.info? e=some i) (hz:i.zero=some z)
  (D:i.size=size) (U:i.bytes=bytes) (V:z.cells.size=size) (X:0<size)
  (v:Value) (n:Nat) (xs:List Value) (hs:a.eval s=v) (O:w.ownsRow base e size v n xs)
  (ad:Addr) (m c:Nat) (news:List Value) (hx:a.eval x=.slice (some ad) m c) (hl:news.length=m*size) (I:∀j u,news[j]?=some u->w.cell? (ad.add j)=some u) (h1:∀u∈news,u.oneCell'=true)
  (Y:n+m<=maxLen) (y:(n+m)*bytes<=140737488355328) (J:base<=w.heap.size)
  (hK:∀v' w',w'.ownsRow base e size v' (n+m) (xs++news)->w.grownBy w' v.ownBlock->(v'.ownBlock=v.ownBlock\/v'.ownBlock=some w.heap.size)->K (a.put o.dst v') w') :
  if Region.wanted o (yielded ops a.tmps)=true then Oper.wp P o a w K Q else E:=by
 have hw:Region.wanted o (yielded ops a.tmps)=true:=by simp[Region.wanted,Z]
 rw[if_pos hw];obtain⟨v',w',hr,h2,h3,h4,h5⟩:=run_append_own_at (P:=P) w base t o.type e i z size bytes ht hi hz D U V X v n xs O ad m c news hl I h1 Y y J;unfold Oper.wp;simp[execOp,T,resolve,invoke,builtin,hs,hx,hr,Result.andThen];exact hK v' w' h2 h3 h5
end Go.Proofs.YtfkhljmiehdgmaaGreatDoor
