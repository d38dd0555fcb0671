/-
  Steps of the proof.
-/
import Derived.Test.YtfkhljmiehdgmaaGreatDoorCuAF
import Derived.ScopeJumps
import Derived.WalkMore
set_option maxRecDepth 100000
set_option maxHeartbeats 40000000
namespace Go.Proofs.YtfkhljmiehdgmaaGreatDoor
open Go.RowKit Go.Proofs.Tryz Pl
section
open Go.Maps
variable{B:Nat}{w w':World}{S:List Src}{vv:Value}{s:Sr}{l:List (En×Sx)}{e:En}
theorem qj5{a b:En}(h:qge a=qge b):a=b:=by
 obtain⟨i,⟨⟨m,n,e,k,r,es⟩,⟨rf,hx,pc,fr⟩⟩⟩:=a;obtain⟨i',⟨⟨m',n',e',k',r',es'⟩,⟨rf',hb,pc',fr'⟩⟩⟩:=b;unfold qge qaf bs at h;simp only[List.append_toArray,xB,xC,Value.agg.injEq,Array.mk.injEq,List.cons.injEq,Value.int.injEq,true_and,Value.string.injEq,Value.bool.injEq,and_true,ByteArray.mk.injEq]at h;obtain⟨h1,h2,h3,h4,h5,h6,h7,h8,h9,ha,Ha⟩:=h;have e1:i=i':=by omega
 have e2:m=m':=by omega
 have e6:r=r':=by omega
 subst e1 e2 e6 h3 h4 h5 h7 h8 h9 ha Ha;rfl
structure Fix where
 g:Nat
 bS:Nat
 bp:Nat
 be:Nat
 bn:Nat
 pv:Nat->Value
def qlm(F:Fix)(n:Nat)(vv:Value)(f:Ft):Array Value:=#[zF F.bS n n,.map (some F.bp),.map (some F.be),.map (some F.bn),vv,zI f.code,zI f.kind,bs f.place,zI f.pos]
structure SrcAt(w:World)(B:Nat)(F:Fix)(S:List Src):Prop where
 blk:∃cs fz,w.heap[F.bS]?=some (.cells cs 173 fz)
 name:∀i s,S[i]?=some s->w.cell? (zO F.bS (i*2))=some (bs s.name)
 slice:∀i s,S[i]?=some s->w.cell? (zO F.bS (i*2+1))=some (F.pv i)
 row:∀i s,S[i]?=some s->w.ownsRow B 229 4 (F.pv i) s.parts.length (qbp s.parts)
def qbw:Nat->List Src->List (Value×Value)
 |_,[]=>[]
 |i,s::l=>(bs s.name,zI i)::qbw (i+1) l
def qo2(l:List (En×Sx)):List (Value×Value):=l.map fun p=>(qge p.1,qar p.2)
structure SeAt(w:World)(B:Nat)(F:Fix)(S:List Src)(vv:Value)(s:Sr):Prop where
 blk:w.heap[F.g]?=zK (qlm F S.length vv s.fault) 178
 src:SrcAt w B F S
 places:qfj w F.bp (qbw 1 (S.drop 1))
 ends:qfj w F.be (qo2 s.ends)
 le:B<=F.g/\B<=F.be
 apart:F.g≠F.be/\F.bp≠F.be
structure Cue(B:Nat)(F:Fix)(w w':World):Prop where
 below:Below B w w'
 keep:∀k,k<w.heap.size->k≠F.g->k≠F.be->w'.heap[k]?=w.heap[k]?
theorem Cue.refl(B:Nat)(F:Fix)(w:World):Cue B F w w:=⟨xL _ _,fun _ _ _ _=>rfl⟩
theorem Cue.trans{F:Fix}{a b c:World}(h:Cue B F a b)(k:Cue B F b c):Cue B F a c:=
 ⟨h.below.trans k.below,fun i hi h1 h2=>(k.keep i (yi hi h.below.size) h1 h2).trans (h.keep i hi h1 h2)⟩
theorem Cue.of_below{F:Fix}(h:zW w w')(hB:B<=w.heap.size):Cue B F w w':=
 ⟨h.mono hB,fun k hk _ _=>h.block k hk⟩
theorem SrcAt.kept{F:Fix}(h:SrcAt w B F S)(hb:w'.heap[F.bS]?=w.heap[F.bS]?)(hr:∀i s k,S[i]?=some s->(F.pv i).ownBlock=some k->w'.heap[k]?=w.heap[k]?):SrcAt w' B F S:=by
 refine⟨?_,fun i s hs=>(xP hb).trans (h.name i s hs),fun i s hs=>(xP hb).trans (h.slice i s hs),fun i s hs=>qab (h.row i s hs) fun k hk=>hr i s k hs hk⟩;obtain⟨cs,fz,hc⟩:=h.blk;exact⟨cs,fz,hb.trans hc⟩
theorem qjc:(178:TypeId)≠173:=by decide
theorem qk6:(178:TypeId)≠229:=by decide
theorem qak{k b:Nat}{L:List (Value×Value)}{cs:Array Value}{t:TypeId}{fz:Nat×Nat}(h:w.heap[k]?=some (.cells cs t fz))(hm:qfj w b L):k≠b:=by
 rintro rfl;obtain⟨es,c,hb,_⟩:=hm;rw[h]at hb;cases hb
theorem SeAt.srcKept{F:Fix}(h:SeAt w B F S vv s)(hk:∀k,k<w.heap.size->k≠F.g->k≠F.be->w'.heap[k]?=w.heap[k]?):SrcAt w' B F S:=by
 obtain⟨cs,fz,hc⟩:=h.src.blk;refine h.src.kept (hk _ (ya.1 hc).1 (fun e=>qae h.blk hc qjc e.symm) (qak hc h.ends)) fun i s' k hs hv=>?_;obtain⟨cur,ha⟩:=qac (h.src.row i s' hs) k hv;exact hk k (ya.1 ha).1 (fun e=>qae h.blk ha qk6 e.symm) (qak ha h.ends)
theorem SeAt.below{F:Fix}(h:SeAt w B F S vv s)(hb:zW w w'):SeAt w' B F S vv s:=
 ⟨(hb.block _ (zL h.blk)).trans h.blk,h.srcKept fun k hk _ _=>hb.block k hk,h.places.heap (hb.block _ h.places.lt),h.ends.heap (hb.block _ h.ends.lt),h.le,h.apart⟩
theorem SeAt.alloc{F:Fix}(h:SeAt w B F S vv s)(o:Obj):SeAt (w.alloc o) B F S vv s:=h.below (zB o)
theorem SeAt.drewN{F:Fix}(h:SeAt w B F S vv s)(n:Nat):SeAt (w.drewN n) B F S vv s:=⟨h.blk,h.src.kept rfl fun _ _ _ _ _=>rfl,h.places,h.ends,h.le,h.apart⟩
theorem SeAt.other{F:Fix}(h:SeAt w B F S vv s){k:Nat}{cs:Array Value}{t:TypeId}{fz:Nat×Nat}(hk:w.heap[k]?=some (.cells cs t fz))(h1:t≠178)(h2:t≠173)(h3:t≠229)(j:Nat)(v:Value):SeAt (w.setCell (zO k j) v) B F S vv s:=by
 have ha:∀i,i≠k->(w.setCell (zO k j) v).heap[i]?=w.heap[i]?:=fun i hi=>xK _ _ _ _ hi;obtain⟨cs',fz',hc⟩:=h.src.blk;refine⟨(ha _ (qae h.blk hk h1.symm)).trans h.blk,h.src.kept (ha _ (qae hc hk h2.symm)) (fun i s' q hs hv=>?_),h.places.heap (ha _ (qak hk h.places).symm),h.ends.heap (ha _ (qak hk h.ends).symm),h.le,h.apart⟩;obtain⟨cur,Ha⟩:=qac (h.src.row i s' hs) q hv;exact ha q (qae Ha hk h3.symm)
theorem SeAt.cell{F:Fix}(h:SeAt w B F S vv s):∀(j:Nat) (v:Value),(qlm F S.length vv s.fault)[j]?=some v->w.cell? (zO F.g j)=some v:=fun j v hv=>qaa h.blk j v (by simpa using hv)
theorem SeAt.thaw{F:Fix}(h:SeAt w B F S vv s)(j:Nat):w.frozen? (zO F.g j)=false:=by simp[World.frozen?,h.blk]
theorem SeAt.put{F:Fix}(h:SeAt w B F S vv s){l:List (En×Sx)}(hm:qfj w' F.be (qo2 l))(hg:w.grownBy w' (some F.be)):SeAt w' B F S vv { s with ends:=l }:=by
 have hk:∀k,k<w.heap.size->k≠F.be->w'.heap[k]?=w.heap[k]?:=fun k hk ha=>hg.block k hk (fun e=>ha (yk e));exact⟨(hk _ (zL h.blk) h.apart.1).trans h.blk,h.srcKept fun k Ha _ h3=>hk k Ha h3,h.places.heap (hk _ h.places.lt h.apart.2),hm,h.le,h.apart⟩
theorem Cue.put{F:Fix}(hB:B<=F.be)(ha:F.be<w.heap.size)(hg:w.grownBy w' (some F.be)):Cue B F w w':=
 ⟨⟨hg.os,hg.tape,hg.output,hg.size,fun k hk=>hg.block k (by omega) (fun x=>by have:=yk x;omega)⟩,fun k hk _ h2=>hg.block k hk (fun e=>h2 (yk e))⟩
theorem qoj(n:zU):∀(l:List Src) (i:Nat),(qh4 n i l=0->1<=i->∀p∈qbw i l,p.1≠bs n)/\(qh4 n i l≠0->(bs n,Value.int .i64 (qh4 n i l))∈qbw i l)
 |[],i=>⟨fun _ _ p hp=>(by cases hp),fun h=>absurd rfl h⟩
 |s::l,i=>by
   have ih:=qoj n l (i+1);unfold qh4 qbw;by_cases h:s.name=n
   ·rw[if_pos h]
    exact⟨fun h1 h2=>by omega,fun _=>by rw[h];simp⟩
   ·rw[if_neg h]
    refine⟨fun h1 h2 p hp=>?_,fun h1=>yX _ (ih.2 h1)⟩;rcases xt.1 hp with rfl|hp
    ·intro e
     unfold bs at e;injection e with e;injection e with e;exact h (Array.toList_inj.2 e)
    ·exact ih.1 h1 (by omega) p hp
theorem q0z(l:List Src):∀(i:Nat) (p:Value×Value),p∈qbw i l->∃s∈l,p.1=bs s.name:=by
 induction l with
 |nil=>intro i p hp;cases hp
 |cons s l ih=>
   intro i p hp;rcases xt.1 hp with rfl|hp
   ·exact⟨s,by simp,rfl⟩
   ·obtain⟨s',h1,h2⟩:=ih (i+1) p hp
    exact⟨s',yX _ h1,h2⟩
theorem qsv(l:List Src):∀(i k:Nat) (p:Value×Value),(qbw i l)[k]?=some p->∃s,l[k]?=some s/\p.1=bs s.name:=by
 induction l with
 |nil=>intro i k p hp;simp[qbw]at hp
 |cons s l ih=>
   intro i k p hp;cases k with
   |zero=>simp only[qbw,yS,Option.some.injEq]at hp;subst hp;exact⟨s,rfl,rfl⟩
   |succ k=>
     obtain⟨s',h1,h2⟩:=ih (i+1) k p (by simpa [qbw]using hp);exact⟨s',by simpa using h1,h2⟩
structure SrcsOk(S:List Src):Prop where
 few:1<=S.length/\S.length<=7
 one:∀(i j:Nat) (a b:Src),1<=i->1<=j->S[i]?=some a->S[j]?=some b->a.name=b.name->i=j
 short:∀(i:Nat) (a:Src),S[i]?=some a->a.name.length<=100000
 parts:∀(i:Nat) (a:Src),S[i]?=some a->a.parts.length<=2000/\∀p∈a.parts,p.text.length<=2000/\p.pos<=2000/\p.mate<=2000
 wf:∀(i:Nat) (a:Src),S[i]?=some a->Wf 0 a.parts
theorem zhr{a b:zU}(h:bs a=bs b):a=b:=by
 unfold bs at h;injection h with h;injection h with h;exact Array.toList_inj.2 h
theorem q0a(s:zT)(h:s.size<=maxLen):∃l,keyOf prog 9 (.string s)=some l:=by
 unfold keyOf mapKey;simp[underlying9,h]
theorem q2b(l:zU):(⟨l.toArray⟩:zT).size=l.length:=by simp[ByteArray.size]
theorem qqk(h:SrcsOk S):KeysOk prog 9 (qbw 1 (S.drop 1)):=by
 refine⟨fun p hp=>?_,fun i j p q hi hj ha=>?_⟩
 ·obtain⟨s,hs,e⟩:=q0z _ _ _ hp
  obtain⟨k,hk⟩:=xj (List.mem_of_mem_drop hs);rw[e];exact q0a _ (by rw[q2b];have:=h.short k s hk;unfold maxLen;omega)
 ·obtain⟨a,h1,h2⟩:=qsv _ _ _ _ hi
  obtain⟨b,h3,h4⟩:=qsv _ _ _ _ hj;rw[List.getElem?_drop]at h1 h3;have:=h.one (1+i) (1+j) a b (by omega) (by omega) h1 h3 (zhr (by rw[<-h2,<-h4,ha]));omega
theorem q3a(w:World):(zeroValue 3).run prog w=.ok (zI 0) w:=by
 have e:t3.zero=some (zI 0):=by kernel_rfl
 simp[zeroValue,go_sem,e]
theorem SeAt.place{F:Fix}(h:SeAt w B F S vv s)(hS:SrcsOk S)(n:zU)(hn:n.length<=100000):(Instr.lookup 174 (.map (some F.bp)) (zV n) false).run prog w=.ok (zI (qaj S n:Nat)) w:=by
 obtain⟨kl,ha⟩:=q0a ⟨n.toArray⟩ (by rw[q2b];unfold maxLen;omega);obtain⟨f1,f2⟩:=qoj n (S.drop 1) 1;by_cases h0:qaj S n=0
 ·rw[h0]
  exact qix qno underlying174 (q3a w) h.places (qqk hS) ha (f1 h0 (yg _)) false
 ·exact qh3 qno underlying174 h.places (qqk hS) ha (f2 h0) false
theorem qvq{i:Nat}{p:Value×Value}(h:(qo2 l)[i]?=some p):∃q,l[i]?=some q/\p=(qge q.1,qar q.2):=by
 unfold qo2 at h;rw[yz]at h;obtain⟨q,h1,h2⟩:=yy.1 h;exact⟨q,h1,h2.symm⟩
theorem qm1{n:Nat}(h:EndsOk n l)(hn:n<=7):KeysOk prog 180 (qo2 l):=by
 refine⟨fun p hp=>?_,fun i j p q hi hj ha=>?_⟩
 ·obtain⟨i,hi⟩:=xj hp
  obtain⟨r,h1,rfl⟩:=qvq hi;have:=h.key r (yl h1);exact qtj this.1.ok this.1.far (by omega)
 ·obtain⟨a,h1,rfl⟩:=qvq hi
  obtain⟨b,h2,rfl⟩:=qvq hj;exact h.one i j a b h1 h2 (qj5 ha)
theorem q4m(w:World):(zeroValue 162).run prog w=.ok (qar Sx.none) w:=by
 have e:qar Sx.none=.agg #[zJ 0,zS,zS,zI 0,zI 0,.bool false,.bool false,zI 0,zI 0,zI 0]:=rfl;rw[e];have e:t162.zero=some (.agg #[zJ 0,zS,zS,zI 0,zI 0,.bool false,.bool false,zI 0,zI 0,zI 0]):=by kernel_rfl
 simp[zeroValue,go_sem,e]
theorem qyi(h:qa9 l e=none):∀p∈qo2 l,p.1≠qge e:=by
 intro p hp;unfold qo2 at hp;obtain⟨q,h1,rfl⟩:=xq.1 hp;exact fun x=>qly h q h1 (qj5 x)
theorem q9z{x:Sx}(h:qa9 l e=some x):(qge e,qar x)∈qo2 l:=xq.2 ⟨(e,x),qg3 h,rfl⟩
theorem SeAt.look{F:Fix}(h:SeAt w B F S vv s)(hS:SrcsOk S)(ho:EndsOk S.length s.ends)(e:En)(he:SxFit e.2)(hi:e.1<=6)(c:Bool) :
  (Instr.lookup 175 (.map (some F.be)) (qge e) c).run prog w=.ok (if c then .tuple #[qar ((qa9 s.ends e).getD Sx.none),.bool (qa9 s.ends e).isSome]else qar ((qa9 s.ends e).getD Sx.none)) w:=by
 obtain⟨kl,ha⟩:=qtj he.ok he.far hi;cases hg:qa9 s.ends e with
 |none=>exact qix qem underlying175 (q4m w) h.ends (qm1 ho hS.few.2) ha (qyi hg) c
 |some x=>exact qh3 qem underlying175 h.ends (qm1 ho hS.few.2) ha (q9z hg) c
theorem SeAt.store{F:Fix}(h:SeAt w B F S vv s)(hS:SrcsOk S)(ho:EndsOk S.length s.ends)(e:En)(he:SxFit e.2)(hi:e.1<=6)(x:Sx) :
  ∃w',(Instr.mapUpdate 175 (.map (some F.be)) (qge e) (qar x)).run prog w=.ok () w'/\SeAt w' B F S vv { s with ends:=qbi s.ends e x }/\Cue B F w w'/\w'.heap.size=w.heap.size:=by
 obtain⟨kl,ha⟩:=qtj he.ok he.far hi;cases hg:qa9 s.ends e with
 |none=>
   obtain⟨w',h1,h2,h3,h4⟩:=qiw (val:=qar x) qem underlying175 h.ends (qm1 ho hS.few.2) ha (qyi hg);refine⟨w',h1,h.put ?_ h3,Cue.put h.le.2 h.ends.lt h3,h4⟩;rw[qfg hg];unfold qo2 at h2 |-;rw[yG];exact h2
 |some y=>
   obtain⟨i,i1,i2⟩:=qif hg x;obtain⟨w',h1,h2,h3,h4⟩:=qk9 (val:=qar x) (v:=qar y) qem underlying175 h.ends (qm1 ho hS.few.2) ha i (by unfold qo2;rw[yz,i1];rfl);refine⟨w',h1,h.put ?_ h3,Cue.put h.le.2 h.ends.lt h3,h4⟩;rw[i2];unfold qo2 at h2 |-;rw[List.map_set];exact h2
end
variable{w:World}{g B:Nat}{P:Program}{a:Act}
def qfu(w:World)(g:Nat):Prop:=∃cs t,w.heap[g]?=zK cs t/\cs.size=6
theorem qfu.lt(h:qfu w g):g<w.heap.size:=by
 obtain⟨cs,t,h,_⟩:=h;exact(ya.1 h).1
theorem qfu.kept{w':World}(h:qfu w g)(hb:Below B w w')(hB:g<B):qfu w' g:=by
 obtain⟨cs,t,h,hs⟩:=h;exact⟨cs,t,(hb.block g hB).trans h,hs⟩
theorem qfu.alloc(h:qfu w g)(o:Obj):qfu (w.alloc o) g:=h.kept ((xL _ w).alloc (yg _) o) h.lt
theorem qfu.drew(h:qfu w g):qfu w.drew g:=h
theorem qp9(w:World)(g:Nat)(cs:Array Value)(t:TypeId)(hg:w.heap.size=g)(hs:cs.size=6):qfu (w.alloc (.cells cs t)) g:=by
 subst hg;exact⟨cs,t,xF w _,hs⟩
theorem qfu.cell(h:qfu w g)(j:Nat)(hj:j<6):∃v,w.cell? (zO g j)=some v:=by
 obtain⟨cs,t,h,hs⟩:=h;exact⟨cs[j],by rw[cell_of_row w g j cs t _ h,Array.getElem?_eq_getElem (by omega)]⟩
theorem qfu.thaw(h:qfu w g)(j:Nat):w.frozen? (zO g j)=false:=by
 obtain⟨cs,t,h,hs⟩:=h;simp[World.frozen?,h]
def set6(w:World)(g:Nat)(v0 v1 v2 v3 v4 v5:Value):World:=(((((w.setCell (zO g 0) v0).setCell (zO g 1) v1).setCell (zO g 2) v2).setCell (zO g 3) v3).setCell (zO g 4) v4).setCell (zO g 5) v5
theorem qky(h:qfu w g)(v0 v1 v2 v3 v4 v5:Value):∀(j:Nat) (v:Value),(#[v0,v1,v2,v3,v4,v5]:Array Value).toList[j]?=some v->(set6 w g v0 v1 v2 v3 v4 v5).cell? (zO g j)=some v:=by
 intro j v hv
 match j,hv with
 |0,hv=>
   obtain⟨u,hu⟩:=h.cell 0 (by omega);obtain rfl:v0=v:=by simpa using hv
   exact(xM _ _ _ _ (by simp)).trans ((xM _ _ _ _ (by simp)).trans ((xM _ _ _ _ (by simp)).trans ((xM _ _ _ _ (by simp)).trans ((xM _ _ _ _ (by simp)).trans (xN _ _ _ (u:=u) (hu))))))
 |1,hv=>
   obtain⟨u,hu⟩:=h.cell 1 (by omega);obtain rfl:v1=v:=by simpa using hv
   exact(xM _ _ _ _ (by simp)).trans ((xM _ _ _ _ (by simp)).trans ((xM _ _ _ _ (by simp)).trans ((xM _ _ _ _ (by simp)).trans (xN _ _ _ (u:=u) ((xM _ _ _ _ (by simp)).trans (hu))))))
 |2,hv=>
   obtain⟨u,hu⟩:=h.cell 2 (by omega);obtain rfl:v2=v:=by simpa using hv
   exact(xM _ _ _ _ (by simp)).trans ((xM _ _ _ _ (by simp)).trans ((xM _ _ _ _ (by simp)).trans (xN _ _ _ (u:=u) ((xM _ _ _ _ (by simp)).trans ((xM _ _ _ _ (by simp)).trans (hu))))))
 |3,hv=>
   obtain⟨u,hu⟩:=h.cell 3 (by omega);obtain rfl:v3=v:=by simpa using hv
   exact(xM _ _ _ _ (by simp)).trans ((xM _ _ _ _ (by simp)).trans (xN _ _ _ (u:=u) ((xM _ _ _ _ (by simp)).trans ((xM _ _ _ _ (by simp)).trans ((xM _ _ _ _ (by simp)).trans (hu))))))
 |4,hv=>
   obtain⟨u,hu⟩:=h.cell 4 (by omega);obtain rfl:v4=v:=by simpa using hv
   exact(xM _ _ _ _ (by simp)).trans (xN _ _ _ (u:=u) ((xM _ _ _ _ (by simp)).trans ((xM _ _ _ _ (by simp)).trans ((xM _ _ _ _ (by simp)).trans ((xM _ _ _ _ (by simp)).trans (hu))))))
 |5,hv=>
   obtain⟨u,hu⟩:=h.cell 5 (by omega);obtain rfl:v5=v:=by simpa using hv
   exact xN _ _ _ (u:=u) ((xM _ _ _ _ (by simp)).trans ((xM _ _ _ _ (by simp)).trans ((xM _ _ _ _ (by simp)).trans ((xM _ _ _ _ (by simp)).trans ((xM _ _ _ _ (by simp)).trans (hu))))))
 |j+6,hv=>simp at hv
theorem qb9{a:World}(h:Below B a w)(hg:B<=g)(v0 v1 v2 v3 v4 v5:Value):Below B a (set6 w g v0 v1 v2 v3 v4 v5):=
 (((((h.setCell (p:=zO g 0) hg v0).setCell (p:=zO g 1) hg v1).setCell (p:=zO g 2) hg v2).setCell (p:=zO g 3) hg v3).setCell (p:=zO g 4) hg v4).setCell (p:=zO g 5) hg v5
theorem qfs{fn:Func}{R:Ending->World->Prop}{p:Tmp}{ty:TypeId}(h:fn.results=#[.cell p ty])(g:Nat)(d:TypeDesc)(hu:P.underlying ty=some d)(hd:aggD d=true)(hi:(P.info? ty).map (·.size)=some 6)
  (hp:a.tmps.getD p undef=zP g) (hs:qfu w g) (ha:a.defers=[]) (v0 v1 v2 v3 v4 v5:Value) (hR:R (.returned (.agg #[v0,v1,v2,v3,v4,v5])) (set6 w g v0 v1 v2 v3 v4 v5)):bodyPost P fn R .ret a (set6 w g v0 v1 v2 v3 v4 v5):=
 bodyPost_ret (qbn h a.tmps _ g _ d hp (qky hs v0 v1 v2 v3 v4 v5) hu hd hi) ha hR
theorem qt6{Q:Exit->Act->World->Prop}{c rest:Code}(l:Nat)(hf:findLabel c l=some rest)
  (first:c.wp P (Exit.jump l (fun a' w'=>rest.wp P (Exit.noGoto Q) a' w') Q) a w):(Code.scope c).wp P Q a w:=by
 refine wp_scope_jumps l (fun a' w'=>rest.wp P (Exit.noGoto Q) a' w') (fun _ _=>0) hf first ?_
 intro a' w' hJ b k cs;obtain⟨e,a₁,w₁,hq,ha⟩:=hJ b k cs;refine⟨e,a₁,w₁,?_,ha⟩;cases e with
 |goto l'=>exact hq.elim
 |normal=>exact hq
 |exit id=>exact hq
 |ret=>exact hq
 |panic ch=>exact hq
 |outgrown=>exact hq
variable{w:World}{g:Nat}
theorem qfu.set(h:qfu w g)(p:Addr)(v:Value):qfu (w.setCell p v) g:=by
 obtain⟨cs,t,h,hs⟩:=h;by_cases hg:g=p.block
 ·subst hg
  refine⟨if p.spot.isSome then cs else cs.setIfInBounds p.off v,t,?_,?_⟩
  ·simp only[World.setCell,Array.getElem?_modify,↓reduceIte,h,Option.map_some]
  ·split<;>simp[hs]
 ·exact⟨cs,t,(xK w p v g hg).trans h,hs⟩
theorem q3d:(prog.info? 3).map (fun i=>(i.zero,i.size,i.bytes))=some (some (zI 0),1,8):=by kernel_rfl
theorem q4q(h:qfu w g)(v0 v1 v2 v3 v4 v5:Value):qfu (set6 w g v0 v1 v2 v3 v4 v5) g:=(((((h.set _ _).set _ _).set _ _).set _ _).set _ _).set _ _
variable{n g B:Nat}{w a:World}{P:Program}{fn:Func}{p:Tmp}
def qet(n:Nat)(w:World)(g:Nat):Prop:=∃cs t,w.heap[g]?=zK cs t/\cs.size=n
theorem qet.lt(h:qet n w g):g<w.heap.size:=by
 obtain⟨cs,t,h,_⟩:=h;exact(ya.1 h).1
theorem qet.kept{w':World}(h:qet n w g)(hb:Below B w w')(hB:g<B):qet n w' g:=by
 obtain⟨cs,t,h,hs⟩:=h;exact⟨cs,t,(hb.block g hB).trans h,hs⟩
theorem qet.alloc(h:qet n w g)(o:Obj):qet n (w.alloc o) g:=h.kept ((xL _ w).alloc (yg _) o) h.lt
theorem qet.drew(h:qet n w g):qet n w.drew g:=h
theorem q7v(n:Nat)(w:World)(g:Nat)(cs:Array Value)(t:TypeId)(hg:w.heap.size=g)(hs:cs.size=n):qet n (w.alloc (.cells cs t)) g:=by
 subst hg;exact⟨cs,t,xF w _,hs⟩
theorem qet.cell(h:qet n w g)(j:Nat)(hj:j<n):∃v,w.cell? (zO g j)=some v:=by
 obtain⟨cs,t,h,hs⟩:=h;exact⟨cs[j],by rw[cell_of_row w g j cs t _ h,Array.getElem?_eq_getElem (by omega)]⟩
theorem qet.thaw(h:qet n w g)(j:Nat):w.frozen? (zO g j)=false:=by
 obtain⟨cs,t,h,hs⟩:=h;simp[World.frozen?,h]
theorem qet.set(h:qet n w g)(p:Addr)(v:Value):qet n (w.setCell p v) g:=by
 obtain⟨cs,t,h,hs⟩:=h;by_cases hg:g=p.block
 ·subst hg
  refine⟨if p.spot.isSome then cs else cs.setIfInBounds p.off v,t,?_,?_⟩
  ·simp only[World.setCell,Array.getElem?_modify,↓reduceIte,h,Option.map_some]
  ·split<;>simp[hs]
 ·exact⟨cs,t,(xK w p v g hg).trans h,hs⟩
theorem qet.cellA(h:qet n w g)(j:Nat)(hj:j<n):∃v,∀o,(w.alloc o).cell? (zO g j)=some v:=by
 obtain⟨v,hv⟩:=h.cell j hj;exact⟨v,fun o=>((xL w.heap.size w).alloc (yg _) o).cell (p:=zO g j) h.lt |>.trans hv⟩
theorem qet.thawA(h:qet n w g)(j:Nat)(o:Obj):(w.alloc o).frozen? (zO g j)=false:=(h.alloc o).thaw j
theorem qap(w:World)(o:Obj)(g:Nat)(h:w.heap.size=g):(w.alloc o).heap[g]?=some o:=by rw[<-h];exact xF w o
theorem zfz(w:World)(a b:Obj):((w.alloc a).alloc b).heap[w.heap.size+1]?=some b:=qap _ _ _ (by simp)
def qg9(w:World)(g:Nat):Nat->List Value->World
 |_,[]=>w
 |k,v::l=>qg9 (w.setCell (zO g k) v) g (k+1) l
theorem qun(g:Nat)(l:List Value):∀(w:World) (k:Nat) (p:Addr),(∀j,k<=j->j<k+l.length->p≠(zO g j))->(qg9 w g k l).cell? p=w.cell? p:=by
 induction l with
 |nil=>intro w k p _;rfl
 |cons v l ih=>
   intro w k p h;show(qg9 (w.setCell (zO g k) v) g (k+1) l).cell? p=_;rw[ih _ _ _ (fun j h1 h2=>h j (by omega) (by simp only[yK];omega))];exact xM _ _ _ _ (Ne.symm (h k (yg _) (by simp)))
theorem qjn(g:Nat)(l:List Value):∀(w:World) (k:Nat),qet n w g->k+l.length<=n->∀(j:Nat) (v:Value),l[j]?=some v->(qg9 w g k l).cell? (zO g (k+j))=some v:=by
 induction l with
 |nil=>intro w k _ _ j v hv;simp at hv
 |cons x l ih=>
   intro w k hs hk j v hv;simp only[yK]at hk;show(qg9 (w.setCell (zO g k) x) g (k+1) l).cell? _=_
   match j,hv with
   |0,hv=>
     obtain rfl:x=v:=by simpa using hv
     rw[qun _ _ _ _ _ (fun j h1 h2 q=>by simp only[Addr.mk.injEq]at q;omega)];obtain⟨u,hu⟩:=hs.cell k (by omega);exact xN _ _ _ (u:=u) hu
   |j+1,hv=>
     have:=ih (w.setCell (zO g k) x) (k+1) (hs.set _ _) (by omega) j v (by simpa using hv);rw[show k+(j+1)=k+1+j by omega];exact this
theorem qi7(g:Nat)(hg:B<=g)(l:List Value):∀(w:World) (k:Nat),Below B a w->Below B a (qg9 w g k l):=by
 induction l with
 |nil=>intro w k h;exact h
 |cons x l ih=>intro w k h;exact ih _ _ (h.setCell (p:=zO g k) hg _)
def set5(w:World)(g:Nat)(v0 v1 v2 v3 v4:Value):World:=((((w.setCell (zO g 0) v0).setCell (zO g 1) v1).setCell (zO g 2) v2).setCell (zO g 3) v3).setCell (zO g 4) v4
theorem q72(w:World)(g:Nat)(v0 v1 v2 v3 v4:Value):set5 w g v0 v1 v2 v3 v4=qg9 w g 0 [v0,v1,v2,v3,v4]:=rfl
theorem q6l(h:qet 5 w g)(v0 v1 v2 v3 v4:Value):∀(j:Nat) (v:Value),(#[v0,v1,v2,v3,v4]:Array Value).toList[j]?=some v->(set5 w g v0 v1 v2 v3 v4).cell? (zO g j)=some v:=by
 intro j v hv;have:=qjn (n:=5) g [v0,v1,v2,v3,v4] w 0 h (by simp) j v hv;rw[xf]at this;rw[q72];exact this
theorem qn5(h:Below B a w)(hg:B<=g)(v0 v1 v2 v3 v4:Value):Below B a (set5 w g v0 v1 v2 v3 v4):=by
 rw[q72];exact qi7 g hg _ _ _ h
theorem qi5{R:Ending->World->Prop}{a:Act}{ty:TypeId}(h:fn.results=#[.cell p ty])(g:Nat)(d:TypeDesc)(hu:P.underlying ty=some d)(hd:aggD d=true)(hi:(P.info? ty).map (·.size)=some 5)
  (hp:a.tmps.getD p undef=zP g) (hs:qet 5 w g) (ha:a.defers=[]) (v0 v1 v2 v3 v4:Value) (hR:R (.returned (.agg #[v0,v1,v2,v3,v4])) (set5 w g v0 v1 v2 v3 v4)):bodyPost P fn R .ret a (set5 w g v0 v1 v2 v3 v4):=
 bodyPost_ret (qbn h a.tmps _ g _ d hp (q6l hs v0 v1 v2 v3 v4) hu hd hi) ha hR
def qdf(w:World)(g:Nat)(v0 v1 v2 v3 v4 v5 v6 v7 v8 v9:Value):World:=(((((((((w.setCell (zO g 0) v0).setCell (zO g 1) v1).setCell (zO g 2) v2).setCell (zO g 3) v3).setCell (zO g 4) v4).setCell (zO g 5) v5).setCell (zO g 6) v6).setCell (zO g 7) v7).setCell (zO g 8) v8).setCell (zO g 9) v9
theorem quo(w:World)(g:Nat)(v0 v1 v2 v3 v4 v5 v6 v7 v8 v9:Value):qdf w g v0 v1 v2 v3 v4 v5 v6 v7 v8 v9=qg9 w g 0 [v0,v1,v2,v3,v4,v5,v6,v7,v8,v9]:=rfl
theorem q2a(h:qet 10 w g)(v0 v1 v2 v3 v4 v5 v6 v7 v8 v9:Value):∀(j:Nat) (v:Value),(#[v0,v1,v2,v3,v4,v5,v6,v7,v8,v9]:Array Value).toList[j]?=some v->(qdf w g v0 v1 v2 v3 v4 v5 v6 v7 v8 v9).cell? (zO g j)=some v:=by
 intro j v hv;have:=qjn (n:=10) g [v0,v1,v2,v3,v4,v5,v6,v7,v8,v9] w 0 h (by simp) j v hv;rw[xf]at this;rw[quo];exact this
theorem qfe(h:Below B a w)(hg:B<=g)(v0 v1 v2 v3 v4 v5 v6 v7 v8 v9:Value):Below B a (qdf w g v0 v1 v2 v3 v4 v5 v6 v7 v8 v9):=by
 rw[quo];exact qi7 g hg _ _ _ h
theorem qle{R:Ending->World->Prop}{a:Act}{ty:TypeId}(h:fn.results=#[.cell p ty])(g:Nat)(d:TypeDesc)(hu:P.underlying ty=some d)(hd:aggD d=true)(hi:(P.info? ty).map (·.size)=some 10)
  (hp:a.tmps.getD p undef=zP g) (hs:qet 10 w g) (ha:a.defers=[]) (v0 v1 v2 v3 v4 v5 v6 v7 v8 v9:Value) (hR:R (.returned (.agg #[v0,v1,v2,v3,v4,v5,v6,v7,v8,v9])) (qdf w g v0 v1 v2 v3 v4 v5 v6 v7 v8 v9)):bodyPost P fn R .ret a (qdf w g v0 v1 v2 v3 v4 v5 v6 v7 v8 v9):=
 bodyPost_ret (qbn h a.tmps _ g _ d hp (q2a hs v0 v1 v2 v3 v4 v5 v6 v7 v8 v9) hu hd hi) ha hR
def setM(w:World)(g:Nat)(v0 v1 v2 v3 v4:Value):World:=((((w.setCell (zO g 5) v0).setCell (zO g 6) v1).setCell (zO g 7) v2).setCell (zO g 8) v3).setCell (zO g 9) v4
variable{w w0:World}{g:Nat}{s:Sx}
theorem SxAt.alloc(h:SxAt w g s)(hg:g<w.heap.size)(o:Obj):SxAt (w.alloc o) g s:=h.kept ((xL _ w).alloc (yg _) o) hg
theorem SxAt.setFar(h:SxAt w g s)(r:Int):SxAt (w.setCell (zO g 9) (zI r)) g ⟨⟨s.st.mode,s.st.name,s.st.elem,s.st.kind,s.st.read,s.st.esc⟩,⟨s.ma.ref,s.ma.hex,s.ma.pct,r⟩⟩:=
 ⟨(xM _ _ _ _ (by simp)).trans h.mode,(xM _ _ _ _ (by simp)).trans h.name,(xM _ _ _ _ (by simp)).trans h.elem,(xM _ _ _ _ (by simp)).trans h.kind,(xM _ _ _ _ (by simp)).trans h.read,(xM _ _ _ _ (by simp)).trans h.ref,(xM _ _ _ _ (by simp)).trans h.esc,(xM _ _ _ _ (by simp)).trans h.hex,(xM _ _ _ _ (by simp)).trans h.pct,xN _ _ _ h.far⟩
structure Mid(w0 w:World)(g:Nat)(s:Sx):Prop where
 eq:w0.heap.size=g
 tabs0:PTabs w0
 below:zW w0 w
 at':SxAt w g s
 slot:qet 10 w g
 res:qet 10 w (g+1)
theorem Mid.kept{w':World}(h:Mid w0 w g s)(hb:zW w w'):Mid w0 w' g s:=
 ⟨h.eq,h.tabs0,h.below.trans (hb.mono h.below.size),h.at'.kept hb h.slot.lt,h.slot.kept hb h.slot.lt,h.res.kept hb h.res.lt⟩
theorem Mid.alloc(h:Mid w0 w g s)(o:Obj):Mid w0 (w.alloc o) g s:=h.kept ((xL _ w).alloc (yg _) o)
theorem Mid.drew(h:Mid w0 w g s):Mid w0 w.drew g s:=h.kept (xL _ w).drew
theorem Mid.setFar(h:Mid w0 w g s)(r:Int):Mid w0 (w.setCell (zO g 9) (zI r)) g ⟨⟨s.st.mode,s.st.name,s.st.elem,s.st.kind,s.st.read,s.st.esc⟩,⟨s.ma.ref,s.ma.hex,s.ma.pct,r⟩⟩:=
 ⟨h.eq,h.tabs0,h.below.setCell (p:=zO g 9) (Nat.le_of_eq h.eq) _,h.at'.setFar r,h.slot.set _ _,h.res.set _ _⟩
theorem qx2(b:UInt8)(w:World)(h:among b hexB=true) :
  zC 130 #[.string ⟨#[48,49,50,51,52,53,54,55,56,57,97,98,99,100,101,102,65,66,67,68,69,70]⟩,zJ b.toNat] w fun e w'=>∃x:Int,0<=x/\e=.returned (zI x)/\w=w':=
 qb7 b _ hexB w rfl h
theorem q1m(b:UInt8)(w:World)(h:among b hexB=false) :
  zC 130 #[.string ⟨#[48,49,50,51,52,53,54,55,56,57,97,98,99,100,101,102,65,66,67,68,69,70]⟩,zJ b.toNat] w (zQ (zI (-1)) w):=
 qci b _ hexB w rfl h
theorem qyc(left:Int)(b:UInt8)(w:World)(h0:-1000<=left)(h1:left<=1000) :
  zC 182 #[zI left,zJ b.toNat] w (zQ (zI (qds left b)) w):=by
 by_cases hl:0<left
 ·by_cases hb:among b hexB=true
  ·have HV:Hid (qds left b=left - 1):=by show _=_;unfold qds;rw[if_pos ⟨hl,hb⟩]
   have hw:IntKind.i64.wrap (left - 1)=left - 1:=by rw[IntKind.wrap_i64];omega
   go_enter func182,ntmps182
   go_wp2_with (go_at_call 130;refine(qx2 b _ hb).mono ?_;rintro e w' ⟨x,hx,rfl,rfl⟩)
   go_ret
   exact⟨qal (by rw[HV.out]),rfl⟩
  ·have hb:=ye.2 hb
   have HV:Hid (qds left b=0):=by show _=_;unfold qds;rw[if_neg (fun q=>by rw[hb]at q;exact absurd q.2 (by simp))]
   go_enter func182,ntmps182
   go_wp2_with (go_at_call 130;refine cm (q1m b _ hb) ?_)
   go_ret
   exact⟨qal (by rw[HV.out]),rfl⟩
 ·have HV:Hid (qds left b=0):=by show _=_;unfold qds;rw[if_neg (fun q=>hl q.1)]
  have ha:decide (0<left)=false:=by rw[yO];exact hl
  go_enter func182,ntmps182
  go_wp2
  go_ret
  exact⟨qal (by rw[HV.out]),rfl⟩
theorem q9c(b:UInt8)(w:World) :
  zC 183 #[zJ b.toNat] w (zQ (.bool (qxy b)) w):=by
 unfold qxy;by_cases h1:qbl b=true
 ·rw[h1,Bool.true_or]
  go_enter func183,ntmps183
  go_wp2_with (go_at_call 132;refine cm (qby b _) ?_;rw[h1])
  go_ret
  exact⟨rfl,rfl⟩
 ·have h1:=ye.2 h1
  rw[h1,Bool.false_or];by_cases h2:qea b=true
  ·rw[h2,Bool.true_or]
   go_enter func183,ntmps183
   go_wp2_with (first|(go_at_call 132;refine cm (qby b _) ?_;rw[h1])|(go_at_call 102;refine cm (qde b _) ?_;rw[h2]))
   go_ret
   exact⟨rfl,rfl⟩
  ·have h2:=ye.2 h2
   rw[h2,Bool.false_or];have h3:((b.toNat:Int)==35)=(b==35):=qil b 35 (by omega);go_enter func183,ntmps183
   go_wp2_with (first|(go_at_call 132;refine cm (qby b _) ?_;rw[h1])|(go_at_call 102;refine cm (qde b _) ?_;rw[h2]))
   go_ret
   exact⟨rfl,rfl⟩
theorem ql8(m:Nat)(w:World) :
  zC 154 #[zJ m] w (zQ (zI (qa0 m)) w):=by
 by_cases hh:m=1\/m=19\/m=8\/m=9\/m=21\/m=22\/m=29\/m=30
 ·rcases hh with rfl | rfl | rfl | rfl | rfl | rfl | rfl | rfl
  all_goals
   go_enter func154,ntmps154
   go_wp2
   go_ret
   exact⟨rfl,rfl⟩
 ·have HV:Hid (qa0 m=0):=by show _=_;unfold qa0;rw[if_neg (by omega),if_neg (by omega),if_neg (by omega)]
  have q1:((m:Int)==1)=false:=by rw[yf];omega
  have q2:((m:Int)==19)=false:=by rw[yf];omega
  have q3:((m:Int)==8)=false:=by rw[yf];omega
  have q4:((m:Int)==9)=false:=by rw[yf];omega
  have q5:((m:Int)==21)=false:=by rw[yf];omega
  have q6:((m:Int)==22)=false:=by rw[yf];omega
  have q7:((m:Int)==29)=false:=by rw[yf];omega
  have q8:((m:Int)==30)=false:=by rw[yf];omega
  clear hh;go_enter func154,ntmps154
  go_wp2
  go_ret
  exact⟨qal (by rw[HV.out]),rfl⟩
theorem beqN(a b:Nat):((a:Int)==(b:Int))=(a==b):=by rw[xh];simp only[yF,Int.natCast_inj]
theorem qkt(x:Sx)(w:World) :
  zC 153 #[qar x] w fun e w'=>e=.returned (.bool (qb4 x.st.kind x.st.mode))/\w.alloc (.cells (qaf x) 162)=w':=by
 unfold qb4 qar qaf bs;by_cases h1:(x.st.kind==1)=true
 ·rw[h1,Bool.true_and]
  by_cases h2:x.st.mode=8
  ·have ha:((x.st.mode:Int)==8)=true:=by rw[h2];rfl
   have HV:Hid ((x.st.mode==8 || x.st.mode==9)=true):=by show _=_;rw[h2];rfl
   rw[HV.out];clear h2;go_enter func153,ntmps153
   go_wp2
   go_ret
   exact⟨rfl,rfl⟩
  ·have ha:((x.st.mode:Int)==8)=false:=by rw[yf];omega
   have HV:Hid ((x.st.mode==8 || x.st.mode==9)=((x.st.mode:Int)==9)):=by
    show _=_;rw[show((9:Int))=((9:Nat):Int)from rfl,beqN,yf.2 h2,Bool.false_or]
   rw[HV.out];clear h2;go_enter func153,ntmps153
   go_wp2
   go_ret
   exact⟨rfl,rfl⟩
 ·have h1:=ye.2 h1
  rw[h1,Bool.false_and];go_enter func153,ntmps153
  go_wp2
  go_ret
  exact⟨rfl,rfl⟩
theorem qu0(x:Sx)(w:World) :
  zC 111 #[qar x] w fun e w'=>e=.returned (.bool (x.st.mode==0))/\w.alloc (.cells (qaf x) 162)=w':=by
 unfold qar qaf bs;by_cases h:x.st.mode=0
 ·have hb:(x.st.mode==0)=true:=yF.2 h
  rw[hb,h];clear hb;go_enter func111,ntmps111
  go_wp2
  go_ret
  exact⟨rfl,rfl⟩
 ·have hb:(x.st.mode==0)=false:=yf.2 h
  have hi:((x.st.mode:Int)==0)=false:=by rw[yf];omega
  rw[hb];clear hb;go_enter func111,ntmps111
  go_wp2
  go_ret
  exact⟨rfl,rfl⟩
theorem q1n(x:Sx)(w:World) :
  zC 155 #[qar x] w fun e w'=>e=.returned (.bool x.halfway)/\w.alloc (.cells (qaf x) 162)=w':=by
 have HV:Hid (x.halfway=(x.ma.ref || (x.st.esc || (decide (0<x.ma.hex) || (decide (0<x.ma.pct) || decide ((0:Int)<(x.st.read:Int))))))):=by
  show _=_;unfold Sx.halfway
  congr 4
  exact decide_eq_decide.2 (by omega)
 rw[HV.out];clear HV;unfold qar qaf bs;generalize x.ma.ref=r;generalize x.st.esc=z;generalize x.ma.hex=h;generalize x.ma.pct=p;generalize (x.st.read:Int)=d;cases r with
 |true=>
   go_enter func155,ntmps155
   go_wp2
   go_ret
   exact⟨rfl,rfl⟩
 |false=>
   cases z with
   |true=>
     go_enter func155,ntmps155
     go_wp2
     go_ret
     exact⟨rfl,rfl⟩
   |false=>
     by_cases c1:0<h
     ·rw[yV c1]
      go_enter func155,ntmps155
      go_wp2
      go_ret
      exact⟨rfl,rfl⟩
     ·rw[yx c1]
      have c1:h<=0:=by omega
      by_cases c2:0<p
      ·rw[yV c2]
       go_enter func155,ntmps155
       go_wp2
       go_ret
       exact⟨rfl,rfl⟩
      ·rw[yx c2]
       have c2:p<=0:=by omega
       by_cases c3:0<d
       ·rw[yV c3]
        go_enter func155,ntmps155
        go_wp2
        go_ret
        exact⟨rfl,rfl⟩
       ·rw[yx c3]
        have c3:d<=0:=by omega
        go_enter func155,ntmps155
        go_wp2
        go_ret
        exact⟨rfl,rfl⟩
theorem qy8{P:Program}{fn:Func}{R:Ending->World->Prop}{a:Act}{w:World}{t u:Tmp}(h:fn.results=#[.tmp t,.tmp u])(ha:a.defers=[])(x y:Value)(hx:a.tmps.getD t undef=x)(hy:a.tmps.getD u undef=y)(hR:R (.returned (.tuple #[x,y])) w):bodyPost P fn R .ret a w:=by
 subst hx hy;refine bodyPost_ret ?_ ha hR;simp[results,h]
theorem q9f(x:Sx)(w:World) :
  zC 108 #[qar x] w (zR (.tuple #[zI x.hole.1,zI x.hole.2]) w):=by
 have hW:=fun w=>ql8 x.st.mode w;have hH:=fun w=>q1n x w;have hI:=fun w=>qkt x w;by_cases h0:qa0 x.st.mode=0
 case' pos=>
  have HV:Hid (x.hole=(0,10)):=by
   show _=_;unfold Sx.hole;rw[if_pos h0]
  rw[HV.out];clear HV;rw[h0]at hW;clear h0;unfold qar qaf bs at hH hI |-
 case' neg=>
  by_cases h1:x.st.kind=2
  case' pos=>
   have HV:Hid (x.hole=(0,11)):=by
    show _=_;unfold Sx.hole;rw[if_neg h0,if_pos h1]
   rw[HV.out];clear HV;have c0:((qa0 x.st.mode:Int)==0)=false:=by rw[yf];omega
   unfold qar qaf bs;rw[h1];unfold qar qaf bs at hH hI;rw[h1]at hH hI;clear h0 h1;generalize (qa0 x.st.mode:Int)=a at hW c0
  case' neg=>
   by_cases h2:x.halfway=true
   case' pos=>
    have HV:Hid (x.hole=(0,12)):=by
     show _=_;unfold Sx.hole;rw[if_neg h0,if_neg h1,if_pos h2]
    rw[HV.out];clear HV;have c0:((qa0 x.st.mode:Int)==0)=false:=by rw[yf];omega
    have c1:((x.st.kind:Int)==2)=false:=by rw[yf];exact h1
    rw[h2]at hH;clear h0 h1 h2;generalize (qa0 x.st.mode:Int)=a at hW c0;unfold qar qaf bs at hH hI |-
   case' neg=>
    by_cases h3:qb4 x.st.kind x.st.mode=true
    case' neg=>
     have HV:Hid (x.hole=(qa0 x.st.mode,0)):=by
      show _=_;unfold Sx.hole;rw[if_neg h0,if_neg h1,if_neg h2,if_neg (fun q=>h3 q.1),if_neg h3]
     rw[HV.out];clear HV;have c0:((qa0 x.st.mode:Int)==0)=false:=by rw[yf];omega
     have c1:((x.st.kind:Int)==2)=false:=by rw[yf];exact h1
     rw[ye.2 h2]at hH;rw[ye.2 h3]at hI;clear h0 h1 h2 h3;simp only;generalize (qa0 x.st.mode:Int)=a at hW c0 |-;unfold qar qaf bs at hH hI |-
    case' pos=>
     by_cases h4:x.ma.far=0
     case' pos=>
      have HV:Hid (x.hole=(2,0)):=by
       show _=_;unfold Sx.hole;rw[if_neg h0,if_neg h1,if_neg h2,if_pos ⟨h3,h4⟩]
      rw[HV.out];clear HV;have c0:((qa0 x.st.mode:Int)==0)=false:=by rw[yf];omega
      have c1:((x.st.kind:Int)==2)=false:=by rw[yf];exact h1
      rw[ye.2 h2]at hH;rw[h3]at hI;unfold qar qaf bs at hH hI |-;rw[h4]at hH hI |-;clear h0 h1 h2 h3 h4;generalize (qa0 x.st.mode:Int)=a at hW c0
     case' neg=>
      have HV:Hid (x.hole=(3,0)):=by
       show _=_;unfold Sx.hole;rw[if_neg h0,if_neg h1,if_neg h2,if_neg (fun q=>h4 q.2),if_pos h3]
      rw[HV.out];clear HV;have c0:((qa0 x.st.mode:Int)==0)=false:=by rw[yf];omega
      have c1:((x.st.kind:Int)==2)=false:=by rw[yf];exact h1
      rw[ye.2 h2]at hH;have c4:((x.ma.far:Int)==0)=false:=by rw[yf];exact h4
      rw[h3]at hI;clear h0 h1 h2 h3 h4;generalize (qa0 x.st.mode:Int)=a at hW c0;unfold qar qaf bs at hH hI |-
 all_goals
  have HW:=zH hW;have HH:=zH hH;have HI:=zH hI;clear hW hH hI;go_enter func108,ntmps108
  go_wp2_with (first
   |(go_at_call 154;refine(HW.out _).mono ?_;rintro e w' ⟨rfl,rfl⟩)
   |(go_at_call 155;refine(HH.out _).mono ?_;rintro e w' ⟨rfl,rfl⟩)
   | (go_at_call 153;refine(HI.out _).mono ?_;rintro e w' ⟨rfl,rfl⟩))
  refine qy8 results108 rfl _ _ rfl rfl ?_;exact⟨rfl,by repeat(first|exact xL _ _|refine Below.alloc ?_ (by simp<;>omega) _)⟩
theorem qkd(x:Sx)(w:World) :
  zC 109 #[qar x] w (zR (qar x.behindHole) w):=by
 have hI:=fun w=>qkt x w;by_cases h3:qb4 x.st.kind x.st.mode=true
 case' neg=>
  have HV:Hid (x.behindHole=x):=if_neg (fun q=>h3 q.1);rw[HV.out];rw[ye.2 h3]at hI
 case' pos=>
  rw[h3]at hI;by_cases h4:x.ma.far<2
  case' pos=>
   have HV:Hid (x.behindHole=⟨x.st,⟨x.ma.ref,x.ma.hex,x.ma.pct,2⟩⟩):=if_pos ⟨h3,h4⟩;rw[HV.out]
  case' neg=>
   have HV:Hid (x.behindHole=x):=if_neg (fun q=>h4 q.2);rw[HV.out];have c4:2<=x.ma.far:=by omega
   clear h4
 all_goals
  unfold qar qaf bs at hI |-;have HI:=zH hI;clear hI h3 HV;go_enter func109,ntmps109
  go_wp2_with (go_at_call 153;refine(HI.out _).mono ?_;rintro e w' ⟨rfl,rfl⟩)
  refine bodyPost_ret (qbn results109 _ _ (w.heap.size+1) _ _ rfl (qaa ((xI _ _ (by simp)).trans (qap (w.alloc _) _ _ (by simp)))) underlying162 rfl (by kernel_rfl)) rfl ?_;exact⟨rfl,by repeat(first|exact xL _ _|refine Below.alloc ?_ (by simp<;>omega) _)⟩
variable{B G R:Nat}{w w' wr:World}{x:Sx}{F:Fix}{S:List Src}{vv:Value}{s:Sr}
def TabB(B:Nat)(w:World):Prop:=PTabs w/\∃w0,PTabs w0/\w0.heap.size<=B
theorem TabB.kept(h:TabB B w)(hb:Below B w w'):TabB B w':=by
 obtain⟨h1,w0,h2,h3⟩:=h;exact⟨h1.kept' h2 (hb.mono h3),w0,h2,h3⟩
def qhp:Prop:=∀(x:Sx) (b:UInt8) (w:World),PTabs w->SxOk x ->
    zC 63 #[qar x,zJ b.toNat] w (zR (qar (x.behind b)) w)
def BehC(S:List Src)(k:Nat):Prop:=∀(w:World) (B:Nat) (F:Fix) (vv:Value) (s:Sr) (n:zU) (x:Sx),SeAt w B F S vv s->EndsOk S.length s.ends->257<=s.ends.length+k->SxFit x->n.length<=2000->TabB B w ->
    zC 156 #[zP F.g,zV n,qar x] w fun e w'=>e=.returned (qar (behV S k s n x).2)/\SeAt w' B F S vv (behV S k s n x).1/\Cue B F w w'
def qao(e:En):Array Value:=#[zI e.1,zJ (e.2.st.mode:Int),bs e.2.st.name,bs e.2.st.elem,zI e.2.st.kind,zI (e.2.st.read:Int),.bool e.2.ma.ref,.bool e.2.st.esc,zI e.2.ma.hex,zI e.2.ma.pct,zI e.2.ma.far]
theorem qbj(e:En):qge e=.agg (qao e):=rfl
def StIn(w:World)(G:Nat)(x:Sx):Prop:=w.heap[G]?=zK (qaf x) 162
theorem StIn.at'(h:StIn w G x):SxAt w G x:=by
 have c:=qaa h;exact⟨c 0 _ rfl,c 1 _ rfl,c 2 _ rfl,c 3 _ rfl,c 4 _ rfl,c 5 _ rfl,c 6 _ rfl,c 7 _ rfl,c 8 _ rfl,c 9 _ rfl⟩
theorem StIn.slot(h:StIn w G x):qet 10 w G:=⟨_,_,h,rfl⟩
theorem StIn.lt(h:StIn w G x):G<w.heap.size:=(ya.1 h).1
theorem StIn.below(h:StIn w G x)(hb:zW w w'):StIn w' G x:=(hb.block _ h.lt).trans h
theorem qhu{g:Nat}{t:TypeId}:∀(l:List Value) (w:World) (k:Nat) (pre old:List Value),w.heap[g]?=zK ((pre++old).toArray) t->pre.length=k->old.length=l.length->(qg9 w g k l).heap[g]?=zK ((pre++l).toArray) t
 |[],w,k,pre,old,h,_,ho=>by
   have:old=[]:=List.length_eq_zero_iff.1 ho;subst this;exact h
 |v::l,w,k,pre,old,h,hk,ho=>by
   cases old with
   |nil=>simp at ho
   |cons u old=>
     show(qg9 (w.setCell (zO g k) v) g (k+1) l).heap[g]?=_;have h1:=xG w g k _ t v h;have e:(pre++u::old).toArray.setIfInBounds k v=((pre++[v])++old).toArray:=by
      rw[List.setIfInBounds_toArray,List.set_append_right _ _ (by omega),hk,xz];simp
     rw[e]at h1;have:=qhu l _ (k+1) (pre++[v]) old h1 (by simp[hk]) (by simpa using ho);rw[this];simp
theorem StIn.set(h:StIn w G x)(y:Sx):StIn (qdf w G (zJ (y.st.mode:Int)) (zV y.st.name) (zV y.st.elem) (zI y.st.kind) (zI (y.st.read:Int)) (.bool y.ma.ref) (.bool y.st.esc) (zI y.ma.hex) (zI y.ma.pct) (zI y.ma.far)) G y:=by
 unfold StIn at h |-;rw[quo];exact qhu (t:=162) _ w 0 [] (qaf x).toList (by simpa using h) rfl rfl
theorem qha{k:Nat}(h:k≠G)(v0 v1 v2 v3 v4 v5 v6 v7 v8 v9:Value):(qdf w G v0 v1 v2 v3 v4 v5 v6 v7 v8 v9).heap[k]?=w.heap[k]?:=by
 have e:∀(w:World) (j:Nat) (v:Value),(w.setCell (zO G j) v).heap[k]?=w.heap[k]?:=fun w j v=>xK _ _ _ _ h;unfold qdf;rw[e,e,e,e,e,e,e,e,e,e]
theorem qb5:(162:TypeId)≠178:=by decide
theorem qpv:(162:TypeId)≠173:=by decide
theorem qua:(162:TypeId)≠229:=by decide
theorem SeAt.far(h:SeAt w B F S vv s){G:Nat}{x:Sx}(hG:StIn w G x)(hk:∀k,k≠G->w'.heap[k]?=w.heap[k]?):SeAt w' B F S vv s:=by
 obtain⟨cs',fz',hc⟩:=h.src.blk;refine⟨(hk _ (qae h.blk hG qb5.symm)).trans h.blk,h.src.kept (hk _ (qae hc hG qpv.symm)) (fun i s' q hs hv=>?_),h.places.heap (hk _ (qak hG h.places).symm),h.ends.heap (hk _ (qak hG h.ends).symm),h.le,h.apart⟩;obtain⟨cur,ha⟩:=qac (h.src.row i s' hs) q hv;exact hk q (qae ha hG qua.symm)
structure Wki(w wr:World)(B:Nat)(F:Fix)(S:List Src)(vv:Value)(s:Sr)(G R:Nat)(x:Sx):Prop where
 se:SeAt wr B F S vv s
 now:StIn wr G x
 res:StIn wr R Sx.none
 ne:G≠R
 old:w.heap.size<=G/\w.heap.size<=R/\B<=w.heap.size
 cue:Cue B F w wr
 tabs:TabB B wr
theorem Wki.below(h:Wki w wr B F S vv s G R x)(hb:zW wr w'):Wki w w' B F S vv s G R x:=
 have hB:B<=wr.heap.size:=yh h.old.2.2 h.cue.below.size
 ⟨h.se.below hb,h.now.below hb,h.res.below hb,h.ne,h.old,h.cue.trans (Cue.of_below hb hB),h.tabs.kept (hb.mono hB)⟩
theorem Wki.alloc(h:Wki w wr B F S vv s G R x)(o:Obj):Wki w (wr.alloc o) B F S vv s G R x:=h.below (zB o)
theorem Wki.drewN(h:Wki w wr B F S vv s G R x)(n:Nat):Wki w (wr.drewN n) B F S vv s G R x:=h.below (qat (xL _ _) n)
theorem Wki.set(h:Wki w wr B F S vv s G R x)(y:Sx):Wki w (qdf wr G (zJ (y.st.mode:Int)) (zV y.st.name) (zV y.st.elem) (zI y.st.kind) (zI (y.st.read:Int)) (.bool y.ma.ref) (.bool y.st.esc) (zI y.ma.hex) (zI y.ma.pct) (zI y.ma.far)) B F S vv s G R y:=by
 have ha:=fun k (hk:k≠G)=>qha (w:=wr) hk (zJ (y.st.mode:Int)) (zV y.st.name) (zV y.st.elem) (zI y.st.kind) (zI (y.st.read:Int)) (.bool y.ma.ref) (.bool y.st.esc) (zI y.ma.hex) (zI y.ma.pct) (zI y.ma.far);have Ha:Below G wr (qdf wr G (zJ (y.st.mode:Int)) (zV y.st.name) (zV y.st.elem) (zI y.st.kind) (zI (y.st.read:Int)) (.bool y.ma.ref) (.bool y.st.esc) (zI y.ma.hex) (zI y.ma.pct) (zI y.ma.far)):=qfe (xL _ _) (yg _) _ _ _ _ _ _ _ _ _ _;have hs:=h.now.set y;generalize qdf wr G _ _ _ _ _ _ _ _ _ _=w' at ha Ha hs |-;refine⟨h.se.far h.now ha,hs,(ha _ h.ne.symm).trans h.res,h.ne,h.old,⟨h.cue.below.trans (Ha.mono (yh h.old.2.2 h.old.1)),fun k hk h1 h2=>(ha k (by have:=h.old.1;omega)).trans (h.cue.keep k hk h1 h2)⟩,h.tabs.kept (Ha.mono (yh h.old.2.2 h.old.1))⟩
theorem Wki.turn{s':Sr}(h:Wki w wr B F S vv s G R x)(hs:SeAt w' B F S vv s')(hc:Cue B F wr w'):Wki w w' B F S vv s' G R x:=by
 have h1:=hc.keep G h.now.lt (fun e=>qae h.se.blk h.now qb5.symm e.symm) (qak h.now h.se.ends);have h2:=hc.keep R h.res.lt (fun e=>qae h.se.blk h.res qb5.symm e.symm) (qak h.res h.se.ends);exact⟨hs,h1.trans h.now,h2.trans h.res,h.ne,h.old,h.cue.trans hc,h.tabs.kept hc.below⟩
end Go.Proofs.YtfkhljmiehdgmaaGreatDoor
