/-
  Steps of the proof.
-/
import Derived.Test.YtfkhljmiehdgmaaGreatDoorCuAF
import Derived.ScopeJumps
import Derived.WalkMore
set_option maxRecDepth 100000
set_option maxHeartbeats 40000000
namespace Go.Proofs.YtfkhljmiehdgmaaGreatDoor
open Go.RowKit Go.Proofs.Tryz Pl
section
open Go.Maps
variable{B:Nat}{w w':World}{S:List Src}{vv:Value}{s:Sr}{l:List (En×Sx)}{e:En}
theorem qj5{a b:En}(h:qge a=qge b):a=b:=by
 obtain⟨i,⟨⟨m,n,e,k,r,es⟩,⟨rf,I,pc,fr⟩⟩⟩:=a;obtain⟨i',⟨⟨m',n',e',k',r',es'⟩,⟨rf',D,pc',fr'⟩⟩⟩:=b;unfold qge qaf bs at h;simp only[List.append_toArray,xB,xC,Value.agg.injEq,Array.mk.injEq,List.cons.injEq,Value.int.injEq,true_and,Value.string.injEq,Value.bool.injEq,and_true,ByteArray.mk.injEq]at h;obtain⟨J,O,T,U,V,X,Y,Z,h9,y,z⟩:=h;have e1:i=i':=by omega
 have e2:m=m':=by omega
 have e6:r=r':=by omega
 subst e1 e2 e6 T U V Y Z h9 y z;rfl
structure Fix where
 g:Nat
 bS:Nat
 bp:Nat
 be:Nat
 bn:Nat
 pv:Nat->Value
def qlm(F:Fix)(n:Nat)(vv:Value)(f:Ft):Array Value:=#[zF F.bS n n,.map (some F.bp),.map (some F.be),.map (some F.bn),vv,zI f.code,zI f.kind,bs f.place,zI f.pos]
structure SrcAt(w:World)(B:Nat)(F:Fix)(S:List Src):Prop where
 blk:∃cs fz,w.heap[F.bS]?=some (.cells cs 173 fz)
 name:∀i s,S[i]?=some s->w.cell? (zO F.bS (i*2))=some (bs s.name)
 slice:∀i s,S[i]?=some s->w.cell? (zO F.bS (i*2+1))=some (F.pv i)
 row:∀i s,S[i]?=some s->w.ownsRow B 229 4 (F.pv i) s.parts.length (qbp s.parts)
def qbw:Nat->List Src->List (Value×Value)
 |_,[]=>[]
 |i,s::l=>(bs s.name,zI i)::qbw (i+1) l
def qo2(l:List (En×Sx)):List (Value×Value):=l.map fun p=>(qge p.1,qar p.2)
structure SeAt(w:World)(B:Nat)(F:Fix)(S:List Src)(vv:Value)(s:Sr):Prop where
 blk:w.heap[F.g]?=zK (qlm F S.length vv s.fault) 178
 src:SrcAt w B F S
 places:qfj w F.bp (qbw 1 (S.drop 1))
 ends:qfj w F.be (qo2 s.ends)
 le:B<=F.g/\B<=F.be
 apart:F.g≠F.be/\F.bp≠F.be
structure Cue(B:Nat)(F:Fix)(w w':World):Prop where
 below:Below B w w'
 keep:∀k,k<w.heap.size->k≠F.g->k≠F.be->w'.heap[k]?=w.heap[k]?
theorem Cue.refl(B:Nat)(F:Fix)(w:World):Cue B F w w:=⟨xL _ _,fun _ _ _ _=>rfl⟩
theorem Cue.trans{F:Fix}{a b c:World}(h:Cue B F a b)(k:Cue B F b c):Cue B F a c:=
 ⟨h.below.trans k.below,fun i y z D=>(k.keep i (yi y h.below.size) z D).trans (h.keep i y z D)⟩
theorem Cue.of_below{F:Fix}(h:zW w w')(y:B<=w.heap.size):Cue B F w w':=
 ⟨h.mono y,fun k z _ _=>h.block k z⟩
theorem SrcAt.kept{F:Fix}(h:SrcAt w B F S)(y:w'.heap[F.bS]?=w.heap[F.bS]?)(z:∀i s k,S[i]?=some s->(F.pv i).ownBlock=some k->w'.heap[k]?=w.heap[k]?):SrcAt w' B F S:=by
 refine⟨?_,fun i s D=>(xP y).trans (h.name i s D),fun i s D=>(xP y).trans (h.slice i s D),fun i s D=>qab (h.row i s D) fun k I=>z i s k D I⟩;obtain⟨cs,fz,J⟩:=h.blk;exact⟨cs,fz,y.trans J⟩
theorem qjc:(178:TypeId)≠173:=by decide
theorem qk6:(178:TypeId)≠229:=by decide
theorem qak{k b:Nat}{L:List (Value×Value)}{cs:Array Value}{t:TypeId}{fz:Nat×Nat}(h:w.heap[k]?=some (.cells cs t fz))(y:qfj w b L):k≠b:=by
 rintro rfl;obtain⟨es,c,z,_⟩:=y;rw[h]at z;cases z
theorem SeAt.srcKept{F:Fix}(h:SeAt w B F S vv s)(z:∀k,k<w.heap.size->k≠F.g->k≠F.be->w'.heap[k]?=w.heap[k]?):SrcAt w' B F S:=by
 obtain⟨cs,fz,D⟩:=h.src.blk;refine h.src.kept (z _ (ya.1 D).1 (fun e=>qae h.blk D qjc e.symm) (qak D h.ends)) fun i s' k I J=>?_;obtain⟨cur,y⟩:=qac (h.src.row i s' I) k J;exact z k (ya.1 y).1 (fun e=>qae h.blk y qk6 e.symm) (qak y h.ends)
theorem SeAt.below{F:Fix}(h:SeAt w B F S vv s)(y:zW w w'):SeAt w' B F S vv s:=
 ⟨(y.block _ (zL h.blk)).trans h.blk,h.srcKept fun k z _ _=>y.block k z,h.places.heap (y.block _ h.places.lt),h.ends.heap (y.block _ h.ends.lt),h.le,h.apart⟩
theorem SeAt.alloc{F:Fix}(h:SeAt w B F S vv s)(o:Obj):SeAt (w.alloc o) B F S vv s:=h.below (zB o)
theorem SeAt.drewN{F:Fix}(h:SeAt w B F S vv s)(n:Nat):SeAt (w.drewN n) B F S vv s:=⟨h.blk,h.src.kept rfl fun _ _ _ _ _=>rfl,h.places,h.ends,h.le,h.apart⟩
theorem SeAt.other{F:Fix}(h:SeAt w B F S vv s){k:Nat}{cs:Array Value}{t:TypeId}{fz:Nat×Nat}(D:w.heap[k]?=some (.cells cs t fz))(I:t≠178)(J:t≠173)(O:t≠229)(j:Nat)(v:Value):SeAt (w.setCell (zO k j) v) B F S vv s:=by
 have y:∀i,i≠k->(w.setCell (zO k j) v).heap[i]?=w.heap[i]?:=fun i T=>xK _ _ _ _ T;obtain⟨cs',fz',U⟩:=h.src.blk;refine⟨(y _ (qae h.blk D I.symm)).trans h.blk,h.src.kept (y _ (qae U D J.symm)) (fun i s' q V X=>?_),h.places.heap (y _ (qak D h.places).symm),h.ends.heap (y _ (qak D h.ends).symm),h.le,h.apart⟩;obtain⟨cur,z⟩:=qac (h.src.row i s' V) q X;exact y q (qae z D O.symm)
theorem SeAt.cell{F:Fix}(h:SeAt w B F S vv s):∀(j:Nat) (v:Value),(qlm F S.length vv s.fault)[j]?=some v->w.cell? (zO F.g j)=some v:=fun j v y=>qaa h.blk j v (by simpa using y)
theorem SeAt.thaw{F:Fix}(h:SeAt w B F S vv s)(j:Nat):w.frozen? (zO F.g j)=false:=by simp[World.frozen?,h.blk]
theorem SeAt.put{F:Fix}(h:SeAt w B F S vv s){l:List (En×Sx)}(D:qfj w' F.be (qo2 l))(I:w.grownBy w' (some F.be)):SeAt w' B F S vv { s with ends:=l }:=by
 have J:∀k,k<w.heap.size->k≠F.be->w'.heap[k]?=w.heap[k]?:=fun k J y=>I.block k J (fun e=>y (yk e));exact⟨(J _ (zL h.blk) h.apart.1).trans h.blk,h.srcKept fun k z _ O=>J k z O,h.places.heap (J _ h.places.lt h.apart.2),D,h.le,h.apart⟩
theorem Cue.put{F:Fix}(z:B<=F.be)(y:F.be<w.heap.size)(D:w.grownBy w' (some F.be)):Cue B F w w':=
 ⟨⟨D.os,D.tape,D.output,D.size,fun k I=>D.block k (by omega) (fun x=>by have:=yk x;omega)⟩,fun k I _ J=>D.block k I (fun e=>J (yk e))⟩
theorem qoj(n:zU):∀(l:List Src) (i:Nat),(qh4 n i l=0->1<=i->∀p∈qbw i l,p.1≠bs n)/\(qh4 n i l≠0->(bs n,Value.int .i64 (qh4 n i l))∈qbw i l)
 |[],i=>⟨fun _ _ p y=>(by cases y),fun h=>absurd rfl h⟩
 |s::l,i=>by
   have ih:=qoj n l (i+1);unfold qh4 qbw;by_cases h:s.name=n
   ·rw[if_pos h]
    exact⟨fun z D=>by omega,fun _=>by rw[h];simp⟩
   ·rw[if_neg h]
    refine⟨fun z D p y=>?_,fun z=>yX _ (ih.2 z)⟩;rcases xt.1 y with rfl|y
    ·intro e
     unfold bs at e;injection e with e;injection e with e;exact h (Array.toList_inj.2 e)
    ·exact ih.1 z (by omega) p y
theorem q0z(l:List Src):∀(i:Nat) (p:Value×Value),p∈qbw i l->∃s∈l,p.1=bs s.name:=by
 induction l with
 |nil=>intro i p y;cases y
 |cons s l ih=>
   intro i p y;rcases xt.1 y with rfl|y
   ·exact⟨s,by simp,rfl⟩
   ·obtain⟨s',z,D⟩:=ih (i+1) p y
    exact⟨s',yX _ z,D⟩
theorem qsv(l:List Src):∀(i k:Nat) (p:Value×Value),(qbw i l)[k]?=some p->∃s,l[k]?=some s/\p.1=bs s.name:=by
 induction l with
 |nil=>intro i k p y;simp[qbw]at y
 |cons s l ih=>
   intro i k p y;cases k with
   |zero=>simp only[qbw,yS,Option.some.injEq]at y;subst y;exact⟨s,rfl,rfl⟩
   |succ k=>
     obtain⟨s',z,D⟩:=ih (i+1) k p (by simpa [qbw]using y);exact⟨s',by simpa using z,D⟩
structure SrcsOk(S:List Src):Prop where
 few:1<=S.length/\S.length<=7
 one:∀(i j:Nat) (a b:Src),1<=i->1<=j->S[i]?=some a->S[j]?=some b->a.name=b.name->i=j
 short:∀(i:Nat) (a:Src),S[i]?=some a->a.name.length<=100000
 parts:∀(i:Nat) (a:Src),S[i]?=some a->a.parts.length<=2000/\∀p∈a.parts,p.text.length<=2000/\p.pos<=2000/\p.mate<=2000
 wf:∀(i:Nat) (a:Src),S[i]?=some a->Wf 0 a.parts
theorem zhr{a b:zU}(h:bs a=bs b):a=b:=by
 unfold bs at h;injection h with h;injection h with h;exact Array.toList_inj.2 h
theorem q0a(s:zT)(h:s.size<=maxLen):∃l,keyOf prog 9 (.string s)=some l:=by
 unfold keyOf mapKey;simp[underlying9,h]
theorem q2b(l:zU):(⟨l.toArray⟩:zT).size=l.length:=by simp[ByteArray.size]
theorem qqk(h:SrcsOk S):KeysOk prog 9 (qbw 1 (S.drop 1)):=by
 refine⟨fun p z=>?_,fun i j p q D I y=>?_⟩
 ·obtain⟨s,J,e⟩:=q0z _ _ _ z
  obtain⟨k,O⟩:=xj (List.mem_of_mem_drop J);rw[e];exact q0a _ (by rw[q2b];have:=h.short k s O;unfold maxLen;omega)
 ·obtain⟨a,T,U⟩:=qsv _ _ _ _ D
  obtain⟨b,V,X⟩:=qsv _ _ _ _ I;rw[List.getElem?_drop]at T V;have:=h.one (1+i) (1+j) a b (by omega) (by omega) T V (zhr (by rw[<-U,<-X,y]));omega
theorem q3a(w:World):(zeroValue 3).run prog w=.ok (zI 0) w:=by
 have e:t3.zero=some (zI 0):=by kernel_rfl
 simp[zeroValue,go_sem,e]
theorem SeAt.place{F:Fix}(h:SeAt w B F S vv s)(z:SrcsOk S)(n:zU)(D:n.length<=100000):(Instr.lookup 174 (.map (some F.bp)) (.string ⟨n.toArray⟩) false).run prog w=.ok (zI (qaj S n:Nat)) w:=by
 obtain⟨kl,y⟩:=q0a ⟨n.toArray⟩ (by rw[q2b];unfold maxLen;omega);obtain⟨f1,f2⟩:=qoj n (S.drop 1) 1;by_cases I:qaj S n=0
 ·rw[I]
  exact qix qno underlying174 (q3a w) h.places (qqk z) y (f1 I (yg _)) false
 ·exact qh3 qno underlying174 h.places (qqk z) y (f2 I) false
theorem qvq{i:Nat}{p:Value×Value}(h:(qo2 l)[i]?=some p):∃q,l[i]?=some q/\p=(qge q.1,qar q.2):=by
 unfold qo2 at h;rw[yz]at h;obtain⟨q,y,z⟩:=yy.1 h;exact⟨q,y,z.symm⟩
theorem qm1{n:Nat}(h:EndsOk n l)(z:n<=7):KeysOk prog 180 (qo2 l):=by
 refine⟨fun p D=>?_,fun i j p q I J y=>?_⟩
 ·obtain⟨i,I⟩:=xj D
  obtain⟨r,O,rfl⟩:=qvq I;have:=h.key r (yl O);exact qtj this.1.ok this.1.far (by omega)
 ·obtain⟨a,O,rfl⟩:=qvq I
  obtain⟨b,T,rfl⟩:=qvq J;exact h.one i j a b O T (qj5 y)
theorem q4m(w:World):(zeroValue 162).run prog w=.ok (qar Sx.none) w:=by
 have e:qar Sx.none=.agg #[zJ 0,zS,zS,zI 0,zI 0,.bool false,.bool false,zI 0,zI 0,zI 0]:=rfl;rw[e];have e:t162.zero=some (.agg #[zJ 0,zS,zS,zI 0,zI 0,.bool false,.bool false,zI 0,zI 0,zI 0]):=by kernel_rfl
 simp[zeroValue,go_sem,e]
theorem qyi(h:qa9 l e=none):∀p∈qo2 l,p.1≠qge e:=by
 intro p y;unfold qo2 at y;obtain⟨q,z,rfl⟩:=xq.1 y;exact fun x=>qly h q z (qj5 x)
theorem q9z{x:Sx}(h:qa9 l e=some x):(qge e,qar x)∈qo2 l:=xq.2 ⟨(e,x),qg3 h,rfl⟩
theorem SeAt.look{F:Fix}(h:SeAt w B F S vv s)(z:SrcsOk S)(D:EndsOk S.length s.ends)(e:En)(I:SxFit e.2)(J:e.1<=6)(c:Bool) :
  (Instr.lookup 175 (.map (some F.be)) (qge e) c).run prog w=.ok (if c then .tuple #[qar ((qa9 s.ends e).getD Sx.none),.bool (qa9 s.ends e).isSome]else qar ((qa9 s.ends e).getD Sx.none)) w:=by
 obtain⟨kl,y⟩:=qtj I.ok I.far J;cases O:qa9 s.ends e with
 |none=>exact qix qem underlying175 (q4m w) h.ends (qm1 D z.few.2) y (qyi O) c
 |some x=>exact qh3 qem underlying175 h.ends (qm1 D z.few.2) y (q9z O) c
theorem SeAt.store{F:Fix}(h:SeAt w B F S vv s)(D:SrcsOk S)(I:EndsOk S.length s.ends)(e:En)(J:SxFit e.2)(O:e.1<=6)(x:Sx) :
  ∃w',(Instr.mapUpdate 175 (.map (some F.be)) (qge e) (qar x)).run prog w=.ok () w'/\SeAt w' B F S vv { s with ends:=qbi s.ends e x }/\Cue B F w w'/\w'.heap.size=w.heap.size:=by
 obtain⟨kl,z⟩:=qtj J.ok J.far O;cases T:qa9 s.ends e with
 |none=>
   obtain⟨w',U,V,X,Y⟩:=qiw (val:=qar x) qem underlying175 h.ends (qm1 I D.few.2) z (qyi T);refine⟨w',U,h.put ?_ X,Cue.put h.le.2 h.ends.lt X,Y⟩;rw[qfg T];unfold qo2 at V |-;rw[yG];exact V
 |some y=>
   obtain⟨i,i1,i2⟩:=qif T x;obtain⟨w',U,V,X,Y⟩:=qk9 (val:=qar x) (v:=qar y) qem underlying175 h.ends (qm1 I D.few.2) z i (by unfold qo2;rw[yz,i1];rfl);refine⟨w',U,h.put ?_ X,Cue.put h.le.2 h.ends.lt X,Y⟩;rw[i2];unfold qo2 at V |-;rw[List.map_set];exact V
end
variable{w:World}{g B:Nat}{P:Program}{a:Act}
def qfu(w:World)(g:Nat):Prop:=∃cs t,w.heap[g]?=zK cs t/\cs.size=6
theorem qfu.lt(h:qfu w g):g<w.heap.size:=by
 obtain⟨cs,t,h,_⟩:=h;exact(ya.1 h).1
theorem qfu.kept{w':World}(h:qfu w g)(y:Below B w w')(z:g<B):qfu w' g:=by
 obtain⟨cs,t,h,D⟩:=h;exact⟨cs,t,(y.block g z).trans h,D⟩
theorem qfu.alloc(h:qfu w g)(o:Obj):qfu (w.alloc o) g:=h.kept ((xL _ w).alloc (yg _) o) h.lt
theorem qfu.drew(h:qfu w g):qfu w.drew g:=h
theorem qp9(w:World)(g:Nat)(cs:Array Value)(t:TypeId)(y:w.heap.size=g)(z:cs.size=6):qfu (w.alloc (.cells cs t)) g:=by
 subst y;exact⟨cs,t,xF w _,z⟩
theorem qfu.cell(h:qfu w g)(j:Nat)(y:j<6):∃v,w.cell? (zO g j)=some v:=by
 obtain⟨cs,t,h,z⟩:=h;exact⟨cs[j],by rw[cell_of_row w g j cs t _ h,Array.getElem?_eq_getElem (by omega)]⟩
theorem qfu.thaw(h:qfu w g)(j:Nat):w.frozen? (zO g j)=false:=by
 obtain⟨cs,t,h,y⟩:=h;simp[World.frozen?,h]
def set6(w:World)(g:Nat)(v0 v1 v2 v3 v4 v5:Value):World:=(((((w.setCell (zO g 0) v0).setCell (zO g 1) v1).setCell (zO g 2) v2).setCell (zO g 3) v3).setCell (zO g 4) v4).setCell (zO g 5) v5
theorem qky(h:qfu w g)(v0 v1 v2 v3 v4 v5:Value):∀(j:Nat) (v:Value),(#[v0,v1,v2,v3,v4,v5]:Array Value).toList[j]?=some v->(set6 w g v0 v1 v2 v3 v4 v5).cell? (zO g j)=some v:=by
 intro j v y
 match j,y with
 |0,y=>
   obtain⟨u,z⟩:=h.cell 0 (by omega);obtain rfl:v0=v:=by simpa using y
   exact(xM _ _ _ _ (by simp)).trans ((xM _ _ _ _ (by simp)).trans ((xM _ _ _ _ (by simp)).trans ((xM _ _ _ _ (by simp)).trans ((xM _ _ _ _ (by simp)).trans (xN _ _ _ (u:=u) (z))))))
 |1,y=>
   obtain⟨u,z⟩:=h.cell 1 (by omega);obtain rfl:v1=v:=by simpa using y
   exact(xM _ _ _ _ (by simp)).trans ((xM _ _ _ _ (by simp)).trans ((xM _ _ _ _ (by simp)).trans ((xM _ _ _ _ (by simp)).trans (xN _ _ _ (u:=u) ((xM _ _ _ _ (by simp)).trans (z))))))
 |2,y=>
   obtain⟨u,z⟩:=h.cell 2 (by omega);obtain rfl:v2=v:=by simpa using y
   exact(xM _ _ _ _ (by simp)).trans ((xM _ _ _ _ (by simp)).trans ((xM _ _ _ _ (by simp)).trans (xN _ _ _ (u:=u) ((xM _ _ _ _ (by simp)).trans ((xM _ _ _ _ (by simp)).trans (z))))))
 |3,y=>
   obtain⟨u,z⟩:=h.cell 3 (by omega);obtain rfl:v3=v:=by simpa using y
   exact(xM _ _ _ _ (by simp)).trans ((xM _ _ _ _ (by simp)).trans (xN _ _ _ (u:=u) ((xM _ _ _ _ (by simp)).trans ((xM _ _ _ _ (by simp)).trans ((xM _ _ _ _ (by simp)).trans (z))))))
 |4,y=>
   obtain⟨u,z⟩:=h.cell 4 (by omega);obtain rfl:v4=v:=by simpa using y
   exact(xM _ _ _ _ (by simp)).trans (xN _ _ _ (u:=u) ((xM _ _ _ _ (by simp)).trans ((xM _ _ _ _ (by simp)).trans ((xM _ _ _ _ (by simp)).trans ((xM _ _ _ _ (by simp)).trans (z))))))
 |5,y=>
   obtain⟨u,z⟩:=h.cell 5 (by omega);obtain rfl:v5=v:=by simpa using y
   exact xN _ _ _ (u:=u) ((xM _ _ _ _ (by simp)).trans ((xM _ _ _ _ (by simp)).trans ((xM _ _ _ _ (by simp)).trans ((xM _ _ _ _ (by simp)).trans ((xM _ _ _ _ (by simp)).trans (z))))))
 |j+6,y=>simp at y
theorem qb9{a:World}(h:Below B a w)(y:B<=g)(v0 v1 v2 v3 v4 v5:Value):Below B a (set6 w g v0 v1 v2 v3 v4 v5):=
 (((((h.setCell (p:=zO g 0) y v0).setCell (p:=zO g 1) y v1).setCell (p:=zO g 2) y v2).setCell (p:=zO g 3) y v3).setCell (p:=zO g 4) y v4).setCell (p:=zO g 5) y v5
theorem qfs{fn:Func}{R:Ending->World->Prop}{p:Tmp}{ty:TypeId}(h:fn.results=#[.cell p ty])(g:Nat)(d:TypeDesc)(z:P.underlying ty=some d)(hd:aggD d=true)(D:(P.info? ty).map (·.size)=some 6)
  (I:a.tmps.getD p undef=zP g) (J:qfu w g) (y:a.defers=[]) (v0 v1 v2 v3 v4 v5:Value) (O:R (.returned (.agg #[v0,v1,v2,v3,v4,v5])) (set6 w g v0 v1 v2 v3 v4 v5)):bodyPost P fn R .ret a (set6 w g v0 v1 v2 v3 v4 v5):=
 bodyPost_ret (qbn h a.tmps _ g _ d I (qky J v0 v1 v2 v3 v4 v5) z hd D) y O
theorem qt6{Q:Exit->Act->World->Prop}{c rest:Code}(l:Nat)(z:findLabel c l=some rest)
  (first:c.wp P (Exit.jump l (fun a' w'=>rest.wp P (Exit.noGoto Q) a' w') Q) a w):(Code.scope c).wp P Q a w:=by
 refine wp_scope_jumps l (fun a' w'=>rest.wp P (Exit.noGoto Q) a' w') (fun _ _=>0) z first ?_
 intro a' w' D b k cs;obtain⟨e,a₁,w₁,I,y⟩:=D b k cs;refine⟨e,a₁,w₁,?_,y⟩;cases e with
 |goto l'=>exact I.elim
 |normal=>exact I
 |exit id=>exact I
 |ret=>exact I
 |panic ch=>exact I
 |outgrown=>exact I
variable{w:World}{g:Nat}
theorem qfu.set(h:qfu w g)(p:Addr)(v:Value):qfu (w.setCell p v) g:=by
 obtain⟨cs,t,h,y⟩:=h;by_cases z:g=p.block
 ·subst z
  refine⟨if p.spot.isSome then cs else cs.setIfInBounds p.off v,t,?_,?_⟩
  ·simp only[World.setCell,Array.getElem?_modify,↓reduceIte,h,Option.map_some]
  ·split<;>simp[y]
 ·exact⟨cs,t,(xK w p v g z).trans h,y⟩
theorem q3d:(prog.info? 3).map (fun i=>(i.zero,i.size,i.bytes))=some (some (zI 0),1,8):=by kernel_rfl
theorem q4q(h:qfu w g)(v0 v1 v2 v3 v4 v5:Value):qfu (set6 w g v0 v1 v2 v3 v4 v5) g:=(((((h.set _ _).set _ _).set _ _).set _ _).set _ _).set _ _
variable{n g B:Nat}{w a:World}{P:Program}{fn:Func}{p:Tmp}
def qet(n:Nat)(w:World)(g:Nat):Prop:=∃cs t,w.heap[g]?=zK cs t/\cs.size=n
theorem qet.lt(h:qet n w g):g<w.heap.size:=by
 obtain⟨cs,t,h,_⟩:=h;exact(ya.1 h).1
theorem qet.kept{w':World}(h:qet n w g)(y:Below B w w')(z:g<B):qet n w' g:=by
 obtain⟨cs,t,h,D⟩:=h;exact⟨cs,t,(y.block g z).trans h,D⟩
theorem qet.alloc(h:qet n w g)(o:Obj):qet n (w.alloc o) g:=h.kept ((xL _ w).alloc (yg _) o) h.lt
theorem qet.drew(h:qet n w g):qet n w.drew g:=h
theorem q7v(n:Nat)(w:World)(g:Nat)(cs:Array Value)(t:TypeId)(y:w.heap.size=g)(z:cs.size=n):qet n (w.alloc (.cells cs t)) g:=by
 subst y;exact⟨cs,t,xF w _,z⟩
theorem qet.cell(h:qet n w g)(j:Nat)(y:j<n):∃v,w.cell? (zO g j)=some v:=by
 obtain⟨cs,t,h,z⟩:=h;exact⟨cs[j],by rw[cell_of_row w g j cs t _ h,Array.getElem?_eq_getElem (by omega)]⟩
theorem qet.thaw(h:qet n w g)(j:Nat):w.frozen? (zO g j)=false:=by
 obtain⟨cs,t,h,y⟩:=h;simp[World.frozen?,h]
theorem qet.set(h:qet n w g)(p:Addr)(v:Value):qet n (w.setCell p v) g:=by
 obtain⟨cs,t,h,y⟩:=h;by_cases z:g=p.block
 ·subst z
  refine⟨if p.spot.isSome then cs else cs.setIfInBounds p.off v,t,?_,?_⟩
  ·simp only[World.setCell,Array.getElem?_modify,↓reduceIte,h,Option.map_some]
  ·split<;>simp[y]
 ·exact⟨cs,t,(xK w p v g z).trans h,y⟩
theorem qet.cellA(h:qet n w g)(j:Nat)(y:j<n):∃v,∀o,(w.alloc o).cell? (zO g j)=some v:=by
 obtain⟨v,z⟩:=h.cell j y;exact⟨v,fun o=>((xL w.heap.size w).alloc (yg _) o).cell (p:=zO g j) h.lt |>.trans z⟩
theorem qet.thawA(h:qet n w g)(j:Nat)(o:Obj):(w.alloc o).frozen? (zO g j)=false:=(h.alloc o).thaw j
theorem qap(w:World)(o:Obj)(g:Nat)(h:w.heap.size=g):(w.alloc o).heap[g]?=some o:=by rw[<-h];exact xF w o
theorem zfz(w:World)(a b:Obj):((w.alloc a).alloc b).heap[w.heap.size+1]?=some b:=qap _ _ _ (by simp)
def qg9(w:World)(g:Nat):Nat->List Value->World
 |_,[]=>w
 |k,v::l=>qg9 (w.setCell (zO g k) v) g (k+1) l
theorem qun(g:Nat)(l:List Value):∀(w:World) (k:Nat) (p:Addr),(∀j,k<=j->j<k+l.length->p≠(zO g j))->(qg9 w g k l).cell? p=w.cell? p:=by
 induction l with
 |nil=>intro w k p _;rfl
 |cons v l ih=>
   intro w k p h;show(qg9 (w.setCell (zO g k) v) g (k+1) l).cell? p=_;rw[ih _ _ _ (fun j y z=>h j (by omega) (by simp only[yK];omega))];exact xM _ _ _ _ (Ne.symm (h k (yg _) (by simp)))
theorem qjn(g:Nat)(l:List Value):∀(w:World) (k:Nat),qet n w g->k+l.length<=n->∀(j:Nat) (v:Value),l[j]?=some v->(qg9 w g k l).cell? (zO g (k+j))=some v:=by
 induction l with
 |nil=>intro w k _ _ j v y;simp at y
 |cons x l ih=>
   intro w k z D j v y;simp only[yK]at D;show(qg9 (w.setCell (zO g k) x) g (k+1) l).cell? _=_
   match j,y with
   |0,y=>
     obtain rfl:x=v:=by simpa using y
     rw[qun _ _ _ _ _ (fun j I J q=>by simp only[Addr.mk.injEq]at q;omega)];obtain⟨u,O⟩:=z.cell k (by omega);exact xN _ _ _ (u:=u) O
   |j+1,y=>
     have:=ih (w.setCell (zO g k) x) (k+1) (z.set _ _) (by omega) j v (by simpa using y);rw[show k+(j+1)=k+1+j by omega];exact this
theorem qi7(g:Nat)(y:B<=g)(l:List Value):∀(w:World) (k:Nat),Below B a w->Below B a (qg9 w g k l):=by
 induction l with
 |nil=>intro w k h;exact h
 |cons x l ih=>intro w k h;exact ih _ _ (h.setCell (p:=zO g k) y _)
def set5(w:World)(g:Nat)(v0 v1 v2 v3 v4:Value):World:=((((w.setCell (zO g 0) v0).setCell (zO g 1) v1).setCell (zO g 2) v2).setCell (zO g 3) v3).setCell (zO g 4) v4
theorem q72(w:World)(g:Nat)(v0 v1 v2 v3 v4:Value):set5 w g v0 v1 v2 v3 v4=qg9 w g 0 [v0,v1,v2,v3,v4]:=rfl
theorem q6l(h:qet 5 w g)(v0 v1 v2 v3 v4:Value):∀(j:Nat) (v:Value),(#[v0,v1,v2,v3,v4]:Array Value).toList[j]?=some v->(set5 w g v0 v1 v2 v3 v4).cell? (zO g j)=some v:=by
 intro j v y;have:=qjn (n:=5) g [v0,v1,v2,v3,v4] w 0 h (by simp) j v y;rw[xf]at this;rw[q72];exact this
theorem qn5(h:Below B a w)(y:B<=g)(v0 v1 v2 v3 v4:Value):Below B a (set5 w g v0 v1 v2 v3 v4):=by
 rw[q72];exact qi7 g y _ _ _ h
theorem qi5{R:Ending->World->Prop}{a:Act}{ty:TypeId}(h:fn.results=#[.cell p ty])(g:Nat)(d:TypeDesc)(z:P.underlying ty=some d)(hd:aggD d=true)(D:(P.info? ty).map (·.size)=some 5)
  (I:a.tmps.getD p undef=zP g) (J:qet 5 w g) (y:a.defers=[]) (v0 v1 v2 v3 v4:Value) (O:R (.returned (.agg #[v0,v1,v2,v3,v4])) (set5 w g v0 v1 v2 v3 v4)):bodyPost P fn R .ret a (set5 w g v0 v1 v2 v3 v4):=
 bodyPost_ret (qbn h a.tmps _ g _ d I (q6l J v0 v1 v2 v3 v4) z hd D) y O
def qdf(w:World)(g:Nat)(v0 v1 v2 v3 v4 v5 v6 v7 v8 v9:Value):World:=(((((((((w.setCell (zO g 0) v0).setCell (zO g 1) v1).setCell (zO g 2) v2).setCell (zO g 3) v3).setCell (zO g 4) v4).setCell (zO g 5) v5).setCell (zO g 6) v6).setCell (zO g 7) v7).setCell (zO g 8) v8).setCell (zO g 9) v9
theorem quo(w:World)(g:Nat)(v0 v1 v2 v3 v4 v5 v6 v7 v8 v9:Value):qdf w g v0 v1 v2 v3 v4 v5 v6 v7 v8 v9=qg9 w g 0 [v0,v1,v2,v3,v4,v5,v6,v7,v8,v9]:=rfl
theorem q2a(h:qet 10 w g)(v0 v1 v2 v3 v4 v5 v6 v7 v8 v9:Value):∀(j:Nat) (v:Value),(#[v0,v1,v2,v3,v4,v5,v6,v7,v8,v9]:Array Value).toList[j]?=some v->(qdf w g v0 v1 v2 v3 v4 v5 v6 v7 v8 v9).cell? (zO g j)=some v:=by
 intro j v y;have:=qjn (n:=10) g [v0,v1,v2,v3,v4,v5,v6,v7,v8,v9] w 0 h (by simp) j v y;rw[xf]at this;rw[quo];exact this
theorem qfe(h:Below B a w)(y:B<=g)(v0 v1 v2 v3 v4 v5 v6 v7 v8 v9:Value):Below B a (qdf w g v0 v1 v2 v3 v4 v5 v6 v7 v8 v9):=by
 rw[quo];exact qi7 g y _ _ _ h
theorem qle{R:Ending->World->Prop}{a:Act}{ty:TypeId}(h:fn.results=#[.cell p ty])(g:Nat)(d:TypeDesc)(z:P.underlying ty=some d)(hd:aggD d=true)(D:(P.info? ty).map (·.size)=some 10)
  (I:a.tmps.getD p undef=zP g) (J:qet 10 w g) (y:a.defers=[]) (v0 v1 v2 v3 v4 v5 v6 v7 v8 v9:Value) (O:R (.returned (.agg #[v0,v1,v2,v3,v4,v5,v6,v7,v8,v9])) (qdf w g v0 v1 v2 v3 v4 v5 v6 v7 v8 v9)):bodyPost P fn R .ret a (qdf w g v0 v1 v2 v3 v4 v5 v6 v7 v8 v9):=
 bodyPost_ret (qbn h a.tmps _ g _ d I (q2a J v0 v1 v2 v3 v4 v5 v6 v7 v8 v9) z hd D) y O
def setM(w:World)(g:Nat)(v0 v1 v2 v3 v4:Value):World:=((((w.setCell (zO g 5) v0).setCell (zO g 6) v1).setCell (zO g 7) v2).setCell (zO g 8) v3).setCell (zO g 9) v4
variable{w w0:World}{g:Nat}{s:Sx}
theorem SxAt.alloc(h:SxAt w g s)(y:g<w.heap.size)(o:Obj):SxAt (w.alloc o) g s:=h.kept ((xL _ w).alloc (yg _) o) y
theorem SxAt.setFar(h:SxAt w g s)(r:Int):SxAt (w.setCell (zO g 9) (zI r)) g ⟨⟨s.st.mode,s.st.name,s.st.elem,s.st.kind,s.st.read,s.st.esc⟩,⟨s.ma.ref,s.ma.hex,s.ma.pct,r⟩⟩:=
 ⟨(xM _ _ _ _ (by simp)).trans h.mode,(xM _ _ _ _ (by simp)).trans h.name,(xM _ _ _ _ (by simp)).trans h.elem,(xM _ _ _ _ (by simp)).trans h.kind,(xM _ _ _ _ (by simp)).trans h.read,(xM _ _ _ _ (by simp)).trans h.ref,(xM _ _ _ _ (by simp)).trans h.esc,(xM _ _ _ _ (by simp)).trans h.hex,(xM _ _ _ _ (by simp)).trans h.pct,xN _ _ _ h.far⟩
structure Mid(w0 w:World)(g:Nat)(s:Sx):Prop where
 eq:w0.heap.size=g
 tabs0:PTabs w0
 below:zW w0 w
 at':SxAt w g s
 slot:qet 10 w g
 res:qet 10 w (g+1)
theorem Mid.kept{w':World}(h:Mid w0 w g s)(y:zW w w'):Mid w0 w' g s:=
 ⟨h.eq,h.tabs0,h.below.trans (y.mono h.below.size),h.at'.kept y h.slot.lt,h.slot.kept y h.slot.lt,h.res.kept y h.res.lt⟩
theorem Mid.alloc(h:Mid w0 w g s)(o:Obj):Mid w0 (w.alloc o) g s:=h.kept ((xL _ w).alloc (yg _) o)
theorem Mid.drew(h:Mid w0 w g s):Mid w0 w.drew g s:=h.kept (xL _ w).drew
theorem Mid.setFar(h:Mid w0 w g s)(r:Int):Mid w0 (w.setCell (zO g 9) (zI r)) g ⟨⟨s.st.mode,s.st.name,s.st.elem,s.st.kind,s.st.read,s.st.esc⟩,⟨s.ma.ref,s.ma.hex,s.ma.pct,r⟩⟩:=
 ⟨h.eq,h.tabs0,h.below.setCell (p:=zO g 9) (Nat.le_of_eq h.eq) _,h.at'.setFar r,h.slot.set _ _,h.res.set _ _⟩
theorem qx2(b:UInt8)(w:World)(h:among b hexB=true) :
  zC 130 #[.string ⟨#[48,49,50,51,52,53,54,55,56,57,97,98,99,100,101,102,65,66,67,68,69,70]⟩,zJ b.toNat] w fun e w'=>∃x:Int,0<=x/\e=.returned (zI x)/\w=w':=
 qb7 b _ hexB w rfl h
theorem q1m(b:UInt8)(w:World)(h:among b hexB=false) :
  zC 130 #[.string ⟨#[48,49,50,51,52,53,54,55,56,57,97,98,99,100,101,102,65,66,67,68,69,70]⟩,zJ b.toNat] w (zQ (zI (-1)) w):=
 qci b _ hexB w rfl h
theorem qyc(left:Int)(b:UInt8)(w:World)(z:-1000<=left)(D:left<=1000) :
  zC 182 #[zI left,zJ b.toNat] w (zQ (zI (qds left b)) w):=by
 by_cases I:0<left
 ·by_cases J:among b hexB=true
  ·have O:Hid (qds left b=left - 1):=by show _=_;unfold qds;rw[if_pos ⟨I,J⟩]
   have T:IntKind.i64.wrap (left - 1)=left - 1:=by rw[IntKind.wrap_i64];omega
   go_enter func182,ntmps182
   go_wp2_with (go_at_call 130;refine(qx2 b _ J).mono ?_;rintro e w' ⟨x,U,rfl,rfl⟩)
   go_ret
   exact⟨qal (by rw[O.out]),rfl⟩
  ·have J:=ye.2 J
   have O:Hid (qds left b=0):=by show _=_;unfold qds;rw[if_neg (fun q=>by rw[J]at q;exact absurd q.2 (by simp))]
   go_enter func182,ntmps182
   go_wp2_with (go_at_call 130;refine cm (q1m b _ J) ?_)
   go_ret
   exact⟨qal (by rw[O.out]),rfl⟩
 ·have O:Hid (qds left b=0):=by show _=_;unfold qds;rw[if_neg (fun q=>I q.1)]
  have y:decide (0<left)=false:=by rw[yO];exact I
  go_enter func182,ntmps182
  go_wp2
  go_ret
  exact⟨qal (by rw[O.out]),rfl⟩
theorem q9c(b:UInt8)(w:World) :
  zC 183 #[zJ b.toNat] w (zQ (.bool (qxy b)) w):=by
 unfold qxy;by_cases y:qbl b=true
 ·rw[y,Bool.true_or]
  go_enter func183,ntmps183
  go_wp2_with (go_at_call 132;refine cm (qby b _) ?_;rw[y])
  go_ret
  exact⟨rfl,rfl⟩
 ·have y:=ye.2 y
  rw[y,Bool.false_or];by_cases z:qea b=true
  ·rw[z,Bool.true_or]
   go_enter func183,ntmps183
   go_wp2_with (first|(go_at_call 132;refine cm (qby b _) ?_;rw[y])|(go_at_call 102;refine cm (qde b _) ?_;rw[z]))
   go_ret
   exact⟨rfl,rfl⟩
  ·have z:=ye.2 z
   rw[z,Bool.false_or];have D:((b.toNat:Int)==35)=(b==35):=qil b 35 (by omega);go_enter func183,ntmps183
   go_wp2_with (first|(go_at_call 132;refine cm (qby b _) ?_;rw[y])|(go_at_call 102;refine cm (qde b _) ?_;rw[z]))
   go_ret
   exact⟨rfl,rfl⟩
theorem ql8(m:Nat)(w:World) :
  zC 154 #[zJ m] w (zQ (zI (qa0 m)) w):=by
 by_cases y:m=1\/m=19\/m=8\/m=9\/m=21\/m=22\/m=29\/m=30
 ·rcases y with rfl | rfl | rfl | rfl | rfl | rfl | rfl | rfl
  all_goals
   go_enter func154,ntmps154
   go_wp2
   go_ret
   exact⟨rfl,rfl⟩
 ·have z:Hid (qa0 m=0):=by show _=_;unfold qa0;rw[if_neg (by omega),if_neg (by omega),if_neg (by omega)]
  have q1:((m:Int)==1)=false:=by rw[yf];omega
  have q2:((m:Int)==19)=false:=by rw[yf];omega
  have q3:((m:Int)==8)=false:=by rw[yf];omega
  have q4:((m:Int)==9)=false:=by rw[yf];omega
  have q5:((m:Int)==21)=false:=by rw[yf];omega
  have q6:((m:Int)==22)=false:=by rw[yf];omega
  have q7:((m:Int)==29)=false:=by rw[yf];omega
  have q8:((m:Int)==30)=false:=by rw[yf];omega
  clear y;go_enter func154,ntmps154
  go_wp2
  go_ret
  exact⟨qal (by rw[z.out]),rfl⟩
theorem beqN(a b:Nat):((a:Int)==(b:Int))=(a==b):=by rw[xh];simp only[yF,Int.natCast_inj]
theorem qkt(x:Sx)(w:World) :
  zC 153 #[qar x] w fun e w'=>e=.returned (.bool (qb4 x.st.kind x.st.mode))/\w.alloc (.cells (qaf x) 162)=w':=by
 unfold qb4 qar qaf bs;by_cases z:(x.st.kind==1)=true
 ·rw[z,Bool.true_and]
  by_cases D:x.st.mode=8
  ·have y:((x.st.mode:Int)==8)=true:=by rw[D];rfl
   have I:Hid ((x.st.mode==8 || x.st.mode==9)=true):=by show _=_;rw[D];rfl
   rw[I.out];clear D;go_enter func153,ntmps153
   go_wp2
   go_ret
   exact⟨rfl,rfl⟩
  ·have y:((x.st.mode:Int)==8)=false:=by rw[yf];omega
   have I:Hid ((x.st.mode==8 || x.st.mode==9)=((x.st.mode:Int)==9)):=by
    show _=_;rw[show((9:Int))=((9:Nat):Int)from rfl,beqN,yf.2 D,Bool.false_or]
   rw[I.out];clear D;go_enter func153,ntmps153
   go_wp2
   go_ret
   exact⟨rfl,rfl⟩
 ·have z:=ye.2 z
  rw[z,Bool.false_and];go_enter func153,ntmps153
  go_wp2
  go_ret
  exact⟨rfl,rfl⟩
theorem qu0(x:Sx)(w:World) :
  zC 111 #[qar x] w fun e w'=>e=.returned (.bool (x.st.mode==0))/\w.alloc (.cells (qaf x) 162)=w':=by
 unfold qar qaf bs;by_cases h:x.st.mode=0
 ·have y:(x.st.mode==0)=true:=yF.2 h
  rw[y,h];clear y;go_enter func111,ntmps111
  go_wp2
  go_ret
  exact⟨rfl,rfl⟩
 ·have y:(x.st.mode==0)=false:=yf.2 h
  have z:((x.st.mode:Int)==0)=false:=by rw[yf];omega
  rw[y];clear y;go_enter func111,ntmps111
  go_wp2
  go_ret
  exact⟨rfl,rfl⟩
theorem q1n(x:Sx)(w:World) :
  zC 155 #[qar x] w fun e w'=>e=.returned (.bool x.halfway)/\w.alloc (.cells (qaf x) 162)=w':=by
 have y:Hid (x.halfway=(x.ma.ref || (x.st.esc || (decide (0<x.ma.hex) || (decide (0<x.ma.pct) || decide ((0:Int)<(x.st.read:Int))))))):=by
  show _=_;unfold Sx.halfway
  congr 4
  exact decide_eq_decide.2 (by omega)
 rw[y.out];clear y;unfold qar qaf bs;generalize x.ma.ref=r;generalize x.st.esc=z;generalize x.ma.hex=h;generalize x.ma.pct=p;generalize (x.st.read:Int)=d;cases r with
 |true=>
   go_enter func155,ntmps155
   go_wp2
   go_ret
   exact⟨rfl,rfl⟩
 |false=>
   cases z with
   |true=>
     go_enter func155,ntmps155
     go_wp2
     go_ret
     exact⟨rfl,rfl⟩
   |false=>
     by_cases c1:0<h
     ·rw[yV c1]
      go_enter func155,ntmps155
      go_wp2
      go_ret
      exact⟨rfl,rfl⟩
     ·rw[yx c1]
      have c1:h<=0:=by omega
      by_cases c2:0<p
      ·rw[yV c2]
       go_enter func155,ntmps155
       go_wp2
       go_ret
       exact⟨rfl,rfl⟩
      ·rw[yx c2]
       have c2:p<=0:=by omega
       by_cases c3:0<d
       ·rw[yV c3]
        go_enter func155,ntmps155
        go_wp2
        go_ret
        exact⟨rfl,rfl⟩
       ·rw[yx c3]
        have c3:d<=0:=by omega
        go_enter func155,ntmps155
        go_wp2
        go_ret
        exact⟨rfl,rfl⟩
theorem qy8{P:Program}{fn:Func}{R:Ending->World->Prop}{a:Act}{w:World}{t u:Tmp}(h:fn.results=#[.tmp t,.tmp u])(z:a.defers=[])(x y:Value)(D:a.tmps.getD t undef=x)(I:a.tmps.getD u undef=y)(J:R (.returned (.tuple #[x,y])) w):bodyPost P fn R .ret a w:=by
 subst D I;refine bodyPost_ret ?_ z J;simp[results,h]
theorem q9f(x:Sx)(w:World) :
  zC 108 #[qar x] w (zR (.tuple #[zI x.hole.1,zI x.hole.2]) w):=by
 have y:=fun w=>ql8 x.st.mode w;have z:=fun w=>q1n x w;have D:=fun w=>qkt x w;by_cases I:qa0 x.st.mode=0
 case' pos=>
  have J:Hid (x.hole=(0,10)):=by
   show _=_;unfold Sx.hole;rw[if_pos I]
  rw[J.out];clear J;rw[I]at y;clear I;unfold qar qaf bs at z D |-
 case' neg=>
  by_cases O:x.st.kind=2
  case' pos=>
   have J:Hid (x.hole=(0,11)):=by
    show _=_;unfold Sx.hole;rw[if_neg I,if_pos O]
   rw[J.out];clear J;have c0:((qa0 x.st.mode:Int)==0)=false:=by rw[yf];omega
   unfold qar qaf bs;rw[O];unfold qar qaf bs at z D;rw[O]at z D;clear I O;generalize (qa0 x.st.mode:Int)=a at y c0
  case' neg=>
   by_cases T:x.halfway=true
   case' pos=>
    have J:Hid (x.hole=(0,12)):=by
     show _=_;unfold Sx.hole;rw[if_neg I,if_neg O,if_pos T]
    rw[J.out];clear J;have c0:((qa0 x.st.mode:Int)==0)=false:=by rw[yf];omega
    have c1:((x.st.kind:Int)==2)=false:=by rw[yf];exact O
    rw[T]at z;clear I O T;generalize (qa0 x.st.mode:Int)=a at y c0;unfold qar qaf bs at z D |-
   case' neg=>
    by_cases U:qb4 x.st.kind x.st.mode=true
    case' neg=>
     have J:Hid (x.hole=(qa0 x.st.mode,0)):=by
      show _=_;unfold Sx.hole;rw[if_neg I,if_neg O,if_neg T,if_neg (fun q=>U q.1),if_neg U]
     rw[J.out];clear J;have c0:((qa0 x.st.mode:Int)==0)=false:=by rw[yf];omega
     have c1:((x.st.kind:Int)==2)=false:=by rw[yf];exact O
     rw[ye.2 T]at z;rw[ye.2 U]at D;clear I O T U;simp only;generalize (qa0 x.st.mode:Int)=a at y c0 |-;unfold qar qaf bs at z D |-
    case' pos=>
     by_cases V:x.ma.far=0
     case' pos=>
      have J:Hid (x.hole=(2,0)):=by
       show _=_;unfold Sx.hole;rw[if_neg I,if_neg O,if_neg T,if_pos ⟨U,V⟩]
      rw[J.out];clear J;have c0:((qa0 x.st.mode:Int)==0)=false:=by rw[yf];omega
      have c1:((x.st.kind:Int)==2)=false:=by rw[yf];exact O
      rw[ye.2 T]at z;rw[U]at D;unfold qar qaf bs at z D |-;rw[V]at z D |-;clear I O T U V;generalize (qa0 x.st.mode:Int)=a at y c0
     case' neg=>
      have J:Hid (x.hole=(3,0)):=by
       show _=_;unfold Sx.hole;rw[if_neg I,if_neg O,if_neg T,if_neg (fun q=>V q.2),if_pos U]
      rw[J.out];clear J;have c0:((qa0 x.st.mode:Int)==0)=false:=by rw[yf];omega
      have c1:((x.st.kind:Int)==2)=false:=by rw[yf];exact O
      rw[ye.2 T]at z;have c4:((x.ma.far:Int)==0)=false:=by rw[yf];exact V
      rw[U]at D;clear I O T U V;generalize (qa0 x.st.mode:Int)=a at y c0;unfold qar qaf bs at z D |-
 all_goals
  have X:=zH y;have Y:=zH z;have Z:=zH D;clear y z D;go_enter func108,ntmps108
  go_wp2_with (first
   |(go_at_call 154;refine(X.out _).mono ?_;rintro e w' ⟨rfl,rfl⟩)
   |(go_at_call 155;refine(Y.out _).mono ?_;rintro e w' ⟨rfl,rfl⟩)
   | (go_at_call 153;refine(Z.out _).mono ?_;rintro e w' ⟨rfl,rfl⟩))
  refine qy8 results108 rfl _ _ rfl rfl ?_;exact⟨rfl,by repeat(first|exact xL _ _|refine Below.alloc ?_ (by simp<;>omega) _)⟩
theorem qkd(x:Sx)(w:World) :
  zC 109 #[qar x] w (zR (qar x.behindHole) w):=by
 have y:=fun w=>qkt x w;by_cases z:qb4 x.st.kind x.st.mode=true
 case' neg=>
  have D:Hid (x.behindHole=x):=if_neg (fun q=>z q.1);rw[D.out];rw[ye.2 z]at y
 case' pos=>
  rw[z]at y;by_cases I:x.ma.far<2
  case' pos=>
   have D:Hid (x.behindHole=⟨x.st,⟨x.ma.ref,x.ma.hex,x.ma.pct,2⟩⟩):=if_pos ⟨z,I⟩;rw[D.out]
  case' neg=>
   have D:Hid (x.behindHole=x):=if_neg (fun q=>I q.2);rw[D.out];have c4:2<=x.ma.far:=by omega
   clear I
 all_goals
  unfold qar qaf bs at y |-;have J:=zH y;clear y z D;go_enter func109,ntmps109
  go_wp2_with (go_at_call 153;refine(J.out _).mono ?_;rintro e w' ⟨rfl,rfl⟩)
  refine bodyPost_ret (qbn results109 _ _ (w.heap.size+1) _ _ rfl (qaa ((xI _ _ (by simp)).trans (qap (w.alloc _) _ _ (by simp)))) underlying162 rfl (by kernel_rfl)) rfl ?_;exact⟨rfl,by repeat(first|exact xL _ _|refine Below.alloc ?_ (by simp<;>omega) _)⟩
variable{B G R:Nat}{w w' wr:World}{x:Sx}{F:Fix}{S:List Src}{vv:Value}{s:Sr}
def TabB(B:Nat)(w:World):Prop:=PTabs w/\∃w0,PTabs w0/\w0.heap.size<=B
theorem TabB.kept(h:TabB B w)(y:Below B w w'):TabB B w':=by
 obtain⟨z,w0,D,I⟩:=h;exact⟨z.kept' D (y.mono I),w0,D,I⟩
def qhp:Prop:=∀(x:Sx) (b:UInt8) (w:World),PTabs w->SxOk x ->
    zC 63 #[qar x,zJ b.toNat] w (zR (qar (x.behind b)) w)
def BehC(S:List Src)(k:Nat):Prop:=∀(w:World) (B:Nat) (F:Fix) (vv:Value) (s:Sr) (n:zU) (x:Sx),SeAt w B F S vv s->EndsOk S.length s.ends->257<=s.ends.length+k->SxFit x->n.length<=2000->TabB B w ->
    zC 156 #[zP F.g,.string ⟨n.toArray⟩,qar x] w fun e w'=>e=.returned (qar (behV S k s n x).2)/\SeAt w' B F S vv (behV S k s n x).1/\Cue B F w w'
def qao(e:En):Array Value:=#[zI e.1,zJ (e.2.st.mode:Int),bs e.2.st.name,bs e.2.st.elem,zI e.2.st.kind,zI (e.2.st.read:Int),.bool e.2.ma.ref,.bool e.2.st.esc,zI e.2.ma.hex,zI e.2.ma.pct,zI e.2.ma.far]
theorem qbj(e:En):qge e=.agg (qao e):=rfl
def StIn(w:World)(G:Nat)(x:Sx):Prop:=w.heap[G]?=zK (qaf x) 162
theorem StIn.at'(h:StIn w G x):SxAt w G x:=by
 have c:=qaa h;exact⟨c 0 _ rfl,c 1 _ rfl,c 2 _ rfl,c 3 _ rfl,c 4 _ rfl,c 5 _ rfl,c 6 _ rfl,c 7 _ rfl,c 8 _ rfl,c 9 _ rfl⟩
theorem StIn.slot(h:StIn w G x):qet 10 w G:=⟨_,_,h,rfl⟩
theorem StIn.lt(h:StIn w G x):G<w.heap.size:=(ya.1 h).1
theorem StIn.below(h:StIn w G x)(y:zW w w'):StIn w' G x:=(y.block _ h.lt).trans h
theorem qhu{g:Nat}{t:TypeId}:∀(l:List Value) (w:World) (k:Nat) (pre old:List Value),w.heap[g]?=zK ((pre++old).toArray) t->pre.length=k->old.length=l.length->(qg9 w g k l).heap[g]?=zK ((pre++l).toArray) t
 |[],w,k,pre,old,h,_,ho=>by
   have:old=[]:=List.length_eq_zero_iff.1 ho;subst this;exact h
 |v::l,w,k,pre,old,h,hk,ho=>by
   cases old with
   |nil=>simp at ho
   |cons u old=>
     show(qg9 (w.setCell (zO g k) v) g (k+1) l).heap[g]?=_;have y:=xG w g k _ t v h;have e:(pre++u::old).toArray.setIfInBounds k v=((pre++[v])++old).toArray:=by
      rw[List.setIfInBounds_toArray,List.set_append_right _ _ (by omega),hk,xz];simp
     rw[e]at y;have:=qhu l _ (k+1) (pre++[v]) old y (by simp[hk]) (by simpa using ho);rw[this];simp
theorem StIn.set(h:StIn w G x)(y:Sx):StIn (qdf w G (zJ (y.st.mode:Int)) (.string ⟨y.st.name.toArray⟩) (.string ⟨y.st.elem.toArray⟩) (zI y.st.kind) (zI (y.st.read:Int)) (.bool y.ma.ref) (.bool y.st.esc) (zI y.ma.hex) (zI y.ma.pct) (zI y.ma.far)) G y:=by
 unfold StIn at h |-;rw[quo];exact qhu (t:=162) _ w 0 [] (qaf x).toList (by simpa using h) rfl rfl
theorem qha{k:Nat}(h:k≠G)(v0 v1 v2 v3 v4 v5 v6 v7 v8 v9:Value):(qdf w G v0 v1 v2 v3 v4 v5 v6 v7 v8 v9).heap[k]?=w.heap[k]?:=by
 have e:∀(w:World) (j:Nat) (v:Value),(w.setCell (zO G j) v).heap[k]?=w.heap[k]?:=fun w j v=>xK _ _ _ _ h;unfold qdf;rw[e,e,e,e,e,e,e,e,e,e]
theorem qb5:(162:TypeId)≠178:=by decide
theorem qpv:(162:TypeId)≠173:=by decide
theorem qua:(162:TypeId)≠229:=by decide
theorem SeAt.far(h:SeAt w B F S vv s){G:Nat}{x:Sx}(z:StIn w G x)(D:∀k,k≠G->w'.heap[k]?=w.heap[k]?):SeAt w' B F S vv s:=by
 obtain⟨cs',fz',I⟩:=h.src.blk;refine⟨(D _ (qae h.blk z qb5.symm)).trans h.blk,h.src.kept (D _ (qae I z qpv.symm)) (fun i s' q J O=>?_),h.places.heap (D _ (qak z h.places).symm),h.ends.heap (D _ (qak z h.ends).symm),h.le,h.apart⟩;obtain⟨cur,y⟩:=qac (h.src.row i s' J) q O;exact D q (qae y z qua.symm)
structure Wki(w wr:World)(B:Nat)(F:Fix)(S:List Src)(vv:Value)(s:Sr)(G R:Nat)(x:Sx):Prop where
 se:SeAt wr B F S vv s
 now:StIn wr G x
 res:StIn wr R Sx.none
 ne:G≠R
 old:w.heap.size<=G/\w.heap.size<=R/\B<=w.heap.size
 cue:Cue B F w wr
 tabs:TabB B wr
theorem Wki.below(h:Wki w wr B F S vv s G R x)(y:zW wr w'):Wki w w' B F S vv s G R x:=
 have z:B<=wr.heap.size:=yh h.old.2.2 h.cue.below.size
 ⟨h.se.below y,h.now.below y,h.res.below y,h.ne,h.old,h.cue.trans (Cue.of_below y z),h.tabs.kept (y.mono z)⟩
theorem Wki.alloc(h:Wki w wr B F S vv s G R x)(o:Obj):Wki w (wr.alloc o) B F S vv s G R x:=h.below (zB o)
theorem Wki.drewN(h:Wki w wr B F S vv s G R x)(n:Nat):Wki w (wr.drewN n) B F S vv s G R x:=h.below (qat (xL _ _) n)
theorem Wki.set(h:Wki w wr B F S vv s G R x)(y:Sx):Wki w (qdf wr G (zJ (y.st.mode:Int)) (.string ⟨y.st.name.toArray⟩) (.string ⟨y.st.elem.toArray⟩) (zI y.st.kind) (zI (y.st.read:Int)) (.bool y.ma.ref) (.bool y.st.esc) (zI y.ma.hex) (zI y.ma.pct) (zI y.ma.far)) B F S vv s G R y:=by
 have z:=fun k (I:k≠G)=>qha (w:=wr) I (zJ (y.st.mode:Int)) (.string ⟨y.st.name.toArray⟩) (.string ⟨y.st.elem.toArray⟩) (zI y.st.kind) (zI (y.st.read:Int)) (.bool y.ma.ref) (.bool y.st.esc) (zI y.ma.hex) (zI y.ma.pct) (zI y.ma.far);have D:Below G wr (qdf wr G (zJ (y.st.mode:Int)) (.string ⟨y.st.name.toArray⟩) (.string ⟨y.st.elem.toArray⟩) (zI y.st.kind) (zI (y.st.read:Int)) (.bool y.ma.ref) (.bool y.st.esc) (zI y.ma.hex) (zI y.ma.pct) (zI y.ma.far)):=qfe (xL _ _) (yg _) _ _ _ _ _ _ _ _ _ _;have J:=h.now.set y;generalize qdf wr G _ _ _ _ _ _ _ _ _ _=w' at z D J |-;refine⟨h.se.far h.now z,J,(z _ h.ne.symm).trans h.res,h.ne,h.old,⟨h.cue.below.trans (D.mono (yh h.old.2.2 h.old.1)),fun k I O T=>(z k (by have:=h.old.1;omega)).trans (h.cue.keep k I O T)⟩,h.tabs.kept (D.mono (yh h.old.2.2 h.old.1))⟩
theorem Wki.turn{s':Sr}(h:Wki w wr B F S vv s G R x)(y:SeAt w' B F S vv s')(z:Cue B F wr w'):Wki w w' B F S vv s' G R x:=by
 have D:=z.keep G h.now.lt (fun e=>qae h.se.blk h.now qb5.symm e.symm) (qak h.now h.se.ends);have I:=z.keep R h.res.lt (fun e=>qae h.se.blk h.res qb5.symm e.symm) (qak h.res h.se.ends);exact⟨y,D.trans h.now,I.trans h.res,h.ne,h.old,h.cue.trans z,h.tabs.kept z.below⟩
end Go.Proofs.YtfkhljmiehdgmaaGreatDoor
