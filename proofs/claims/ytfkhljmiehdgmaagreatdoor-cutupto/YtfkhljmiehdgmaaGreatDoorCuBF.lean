/-
  Steps of the proof.
-/
import Derived.Shelf.Strings.SlTrimAscii
import Derived.Test.YtfkhljmiehdgmaaGreatDoorCuBB
import Derived.Test.YtfkhljmiehdgmaaGreatDoorCuBD
import Derived.Test.YtfkhljmiehdgmaaGreatDoorCuAW
import Derived.Test.YtfkhljmiehdgmaaGreatDoorCuBC
import Derived.Test.YtfkhljmiehdgmaaGreatDoorCuAR
import Derived.Test.YtfkhljmiehdgmaaGreatDoorCuBE
set_option maxRecDepth 100000
set_option maxHeartbeats 40000000
namespace Go.Proofs.YtfkhljmiehdgmaaGreatDoor
open Go.RowKit Go.Proofs.Tryz Pl
theorem zbh(w:World)(B g:Nat)(t:zU)(c:Ct)(vp vo:Value)(h:CtAt w B g t c vp vo)(one:Tg)(ho:TgOk one)(a:Nat)(hn:c.parts.length<=4000)(h6:c.opened.length<=6)(hO:∀m∈c.opened,m<c.parts.length) :
  zC 152 #[zP g,qeh one,zI a] w fun e w'=>e=.returned (zI (c.take one a).1)/\CtTo w w' B g t (c.take one a).2:=by
 by_cases hs:one.slip≠0
 ·exact q7k w B g t c vp vo h one a hs
 obtain⟨kind,slip,n,op,cl⟩:=one;obtain rfl:slip=0:=by simpa using hs
 have hk:=ho.kind;simp only at hk;rcases(show kind=2\/kind=6\/kind=3\/kind=4\/kind=5\/kind=7\/kind=8 by omega)with rfl|rfl|rfl|rfl|rfl|rfl|rfl
 ·exact qwj w B g t c vp vo h 2 n op cl a (.inl rfl) hn
 ·exact qwj w B g t c vp vo h 6 n op cl a (.inr rfl) hn
 ·by_cases hf:c.opened.length=6
  ·have e:c.take ⟨3,0,n,op,cl⟩ a=(8,c):=by simp[Ct.take,hf]
   rw[e];exact qwk w B g t c vp vo h 3 n op cl a (.inl rfl) hf
  ·have e:c.take ⟨3,0,n,op,cl⟩ a=(0,{ c with parts:=c.parts++[⟨3,a,n,0⟩],opened:=c.opened++[c.parts.length] }):=by simp[Ct.take,hf]
   rw[e];exact qwi w B g t c vp vo h 3 n op cl a (.inl rfl) (by omega) hn
 ·by_cases hf:c.opened.length=6
  ·have e:c.take ⟨4,0,n,op,cl⟩ a=(8,c):=by simp[Ct.take,hf]
   rw[e];exact qwk w B g t c vp vo h 4 n op cl a (.inr rfl) hf
  ·have e:c.take ⟨4,0,n,op,cl⟩ a=(0,{ c with parts:=c.parts++[⟨4,a,n,0⟩],opened:=c.opened++[c.parts.length] }):=by simp[Ct.take,hf]
   rw[e];exact qwi w B g t c vp vo h 4 n op cl a (.inr rfl) (by omega) hn
 ·by_cases h0:c.opened.length=0
  ·have e:c.take ⟨5,0,n,op,cl⟩ a=(5,c):=by simp[Ct.take,List.length_eq_zero_iff.1 h0]
   rw[e];exact q4e w B g t c vp vo h n op cl a h0
  ·obtain⟨k,hk⟩:∃k,c.opened.length=k+1:=⟨c.opened.length - 1,by omega⟩
   have hx:c.opened[k]?=some c.opened[k]:=yc (by omega);have hl:c.opened.getLast?=some c.opened[k]:=by rw[List.getLast?_eq_getElem?,show c.opened.length - 1=k by omega];exact hx
   have hm:=hO _ (yl hx);generalize c.opened[k]=m at hx hl hm;have hp:c.parts[m]?=some c.parts[m]:=yc hm;generalize c.parts[m]=p at hp;have ht:qmg c.parts m=p.text:=by unfold qmg;rw[hp]
   by_cases he:p.text=n
   ·have e:c.take ⟨5,0,n,op,cl⟩ a=(0,{ c with parts:=qbd c.parts m c.parts.length++[⟨5,a,n,m⟩],opened:=c.opened.dropLast }):=by simp[Ct.take,hl,ht,he]
    rw[e];exact zbg w B g t c vp vo h n op cl a k m hk hx p hp he h6 hn
   ·have e:c.take ⟨5,0,n,op,cl⟩ a=(6,c):=by simp[Ct.take,hl,ht,he]
    rw[e];exact quh w B g t c vp vo h n op cl a k m hk hx p hp he h6
 ·exact qwl w B g t c vp vo h n op cl a
 ·exact qz5 w B g t c vp vo h n op cl a
theorem qr2(s:zT)(w:World)(hs:s.size<=100000) :
  zC 204 #[.string s,.string ⟨#[9,12,13,32]⟩] w (zR (bs (Lib.trimRightS s.data.toList qdq)) w):=
 Any.strings_TrimRight_laid lays162 (by kernel_rfl) s ⟨#[9,12,13,32]⟩ w (by omega) (by decide) (ascii_of_all (by decide))
theorem que(s:zT)(w:World) :
  zC 196 #[.string s,.string ⟨#[9,12,13,32]⟩] w (zR (bs (Lib.trimLeftS s.data.toList qdq)) w):=
 Any.strings_TrimLeft_laid lays161 (by kernel_rfl) s ⟨#[9,12,13,32]⟩ w (by decide) (ascii_of_all (by decide))
theorem qpz(s:zT)(w:World) :
  zC 196 #[.string s,.string ⟨#[9,10,12,13,32]⟩] w (zR (bs (Lib.trimLeftS s.data.toList qag)) w):=
 Any.strings_TrimLeft_laid lays161 (by kernel_rfl) s ⟨#[9,10,12,13,32]⟩ w (by decide) (ascii_of_all (by decide))
theorem qz1(s:zT)(w:World)(hs:s.size<=100000) :
  zC 150 #[.string s,.string ⟨#[9,10,12,13,32]⟩] w (zR (bs (Lib.trimS s.data.toList qag)) w):=
 Any.strings_Trim_laid lays160 (by kernel_rfl) s ⟨#[9,10,12,13,32]⟩ w (by omega) (by decide) (ascii_of_all (by decide))
theorem qw1(s:zT)(w:World)(h7:qay s.data.toList=7) :
  zC 149 #[.string s] w (zR (qeh ⟨7,0,[],[],[]⟩) w):=by
 have HK:=zH (fun w=>h7▸qgs s w);clear h7;go_enter func149,ntmps149
 go_wp2_with (go_at_call 193;refine cm (HK.out _) ?_)
 exact qp1 (r:=⟨7,0,[],[],[]⟩) results149 rfl rfl (xG w _) (zB _)
theorem q79(s:zT)(w:World)(r:Tg)(h2:qay s.data.toList=2)
  (hN:∀o,zC 195 #[zI (2:Nat),.string s] (w.alloc o) fun e w'=>e=.returned (qeh r)/\Below (w.alloc o).heap.size (w.alloc o) w') :
  zC 149 #[.string s] w (zR (qeh r) w):=by
 have HK:=zH (fun w=>h2▸qgs s w);have HN:=zH hN;have HR:Hid (#[Value.int .i64 r.kind,zI r.slip,bs r.name,bs r.op,bs r.cl]=qnd r):=rfl;clear h2 hN;unfold qeh at HN;unfold bs at HN HR;generalize (r.kind:Int)=r0 at HN HR;generalize (r.slip:Int)=r1 at HN HR;generalize (⟨r.name.toArray⟩:zT)=r2 at HN HR;generalize (⟨r.op.toArray⟩:zT)=r3 at HN HR;generalize (⟨r.cl.toArray⟩:zT)=r4 at HN HR;go_enter func149,ntmps149
 go_wp2_with (first
   |(go_at_call 193;refine cm (HK.out _) ?_)
   | (go_at_call 195;refine xR (HN.out _) ?_;rintro e w' ⟨rfl,hb⟩;have hS:=(qd4 w).next hb;obtain⟨⟨k0,k1,k2,k3,k4⟩,f0,f1,f2,f3,f4⟩:=hS.facts;have HS:=zH hS;clear hb hS))
 exact qgr (w0:=w) r results149 rfl rfl HS.out HR.out
theorem q78(s:zT)(w:World)(r:Tg)(K:Nat)(L:zT)(hk:qay s.data.toList=K)(h2:K≠2)(h7:K≠7)(h8:K≠8)(hs:s.size≠0)(hm:qa3 w)
  (hT:∀w,zC 196 #[.string (s.extract 1 s.size),.string ⟨#[9,10,12,13,32]⟩] w (zR (.string L) w))
  (hN:∀w,qa3 w->zC 195 #[zI K,.string L] w (zR (qeh r) w)) :
  zC 149 #[.string s] w (zR (qeh r) w):=by
 have HK:=zH (fun w=>hk▸qgs s w);have HN:=zH hN;have HT:=zH hT;have HM:=zH hm;have HR:Hid (#[Value.int .i64 r.kind,zI r.slip,bs r.name,bs r.op,bs r.cl]=qnd r):=rfl;have c1:(1:Int)<=(s.size:Int):=by omega
 have e7:¬(K:Int)=7:=by omega
 have e8:¬(K:Int)=8:=by omega
 have e2:¬(K:Int)=2:=by omega
 clear hk h2 hN hT hm h7 h8 hs;unfold qeh at HN;unfold bs at HN HR;generalize (r.kind:Int)=r0 at HN HR;generalize (r.slip:Int)=r1 at HN HR;generalize (⟨r.name.toArray⟩:zT)=r2 at HN HR;generalize (⟨r.op.toArray⟩:zT)=r3 at HN HR;generalize (⟨r.cl.toArray⟩:zT)=r4 at HN HR;go_enter func149,ntmps149
 go_wp2_with (first
   |(go_at_call 193;refine cm (HK.out _) ?_)
   |(go_at_call 196;refine xR (HT.out _) ?_;rintro e w' ⟨rfl,hb⟩;have ha:=(show Hid _ from(qd4 w).next hb);clear hb)
   | (go_at_call 195;refine xR (HN.out _ (qa3.below HM.out (TgSlot.below ha.out))) ?_;rintro e w' ⟨rfl,hb⟩;have hS:=TgSlot.next ha.out hb;obtain⟨⟨k0,k1,k2,k3,k4⟩,f0,f1,f2,f3,f4⟩:=hS.facts;have HS:=zH hS;clear hb hS))
 exact qgr (w0:=w) r results149 rfl rfl HS.out HR.out
theorem q42(s:zT)(w:World)(hs:s.size<=100000)(hm:qa3 w)(h8:qay s.data.toList≠8) :
  zC 149 #[.string s] w (zR (qeh (qba s.data.toList)) w):=by
 by_cases h7:qay s.data.toList=7
 ·have HV:qba s.data.toList=⟨7,0,[],[],[]⟩:=by unfold qba;rw[if_pos h7]
  rw[HV];exact qw1 s w h7
 by_cases h2:qay s.data.toList=2
 ·have HV:qba s.data.toList=qcc 2 s.data.toList:=by unfold qba;rw[if_neg h7,if_neg h8,if_pos h2]
  rw[HV];exact q79 s w _ h2 fun o=>qp2 2 s (w.alloc o) hs (hm.below (zB _))
 have ha:s.size≠0:=fun q=>h2 (by
  have:s.data.toList=[]:=by
   apply yC;simpa using q
  rw[this];rfl)
 have HV:qba s.data.toList=qcc (qay s.data.toList) (Lib.trimLeftS (s.data.toList.drop 1) qag):=by unfold qba;rw[if_neg h7,if_neg h8,if_neg h2]
 rw[HV];have hx:(s.extract 1 s.size).data.toList=s.data.toList.drop 1:=by
  rw[Lib.extract_eq];show List.take _ _=_;exact yp (by simp)
 have Ha:(Lib.trimLeftS (s.data.toList.drop 1) qag).length<=100000:=by
  have:=qiq (s.data.toList.drop 1) qag;have h3:s.data.toList.length=s.size:=by simp
  rw[yM]at this;omega
 refine q78 s w _ _ ⟨(Lib.trimLeftS (s.data.toList.drop 1) qag).toArray⟩ rfl h2 h7 h8 ha hm (fun w=>?_) (fun w hm=>?_)
 ·have:=qpz (s.extract 1 s.size) w
  rw[hx]at this;exact this
 ·exact qp2 _ ⟨(Lib.trimLeftS (s.data.toList.drop 1) qag).toArray⟩ w (by simpa [ByteArray.size]using Ha) hm
def qft(b:Sx×Nat):List Value:=[zJ (b.1.st.mode:Int),bs b.1.st.name,bs b.1.st.elem,zI b.1.st.kind,zI (b.1.st.read:Int),.bool b.1.ma.ref,.bool b.1.st.esc,zI b.1.ma.hex,zI b.1.ma.pct,zI b.1.ma.far,zI (b.2:Nat)]
def qgj(L:List (Sx×Nat)):List Value:=L.flatMap qft
theorem qrp(L:List (Sx×Nat)):(qgj L).length=L.length*11:=by
 induction L with
 |nil=>rfl
 |cons p L ih=>show(qgj L).length+11=_;rw[ih,yK];omega
theorem qow(L:List (Sx×Nat))(b:Sx×Nat):qgj (L++[b])=qgj L++qft b:=by simp[qgj]
theorem qtx:∀(L:List (Sx×Nat)) (k:Nat) (b:Sx×Nat),L[k]?=some b->∀(j:Nat) (v:Value),(qft b)[j]?=some v->(qgj L)[k*11+j]?=some v
 |[],k,p,e=>by simp at e
 |q::L,0,p,e=>by
   simp only[yS,Option.some.injEq]at e;subst e;intro j v hv;show(qft q++qgj L)[0*11+j]?=some v;rw[Nat.zero_mul,xg,yr (yb.1 hv).1];exact hv
 |q::L,k+1,p,e=>by
   intro j v hv;have:=qtx L k p (by simpa using e) j v hv;show(qft q++qgj L)[(k+1)*11+j]?=some v;rw[yt (by simp[qft];omega)];have e:(k+1)*11+j - (qft q).length=k*11+j:=by simp[qft];omega
   rw[e];exact this
theorem qr1:(234:TypeId)≠178:=by decide
theorem qud:(234:TypeId)≠162:=by decide
structure Thi(w wr:World)(B:Nat)(F:Fix)(S:List Src)(vv:Value)(M:List Nat)(s:Sr)(E:Nat)(e:En)(v g len:Nat)(G:Nat)(x:Sx)(vb:Value)(L:List (Sx×Nat)):Prop where
 sv:SvAt wr B F S vv M s
 ent:wr.heap[E]?=zK (qao e) 180
 now:StIn wr G x
 mks:M[v]?=some g
 vis:∃u,s.vis[v]?=some u/\u.2.length=len
 row:wr.ownsRow w.heap.size 234 11 vb L.length (qgj L)
 old:w.heap.size<=G/\B<=w.heap.size
 cuv:Cuv B F w wr
 tabs:TabB B wr
section
variable {w wr w':World}{B:Nat}{F:Fix}{S:List Src}{vv vv':Value}{M M':List Nat}{s s':Sr}{E:Nat}{e:En}{v g len G:Nat}{x:Sx}{vb:Value}{L:List (Sx×Nat)}
theorem Thi.below(h:Thi w wr B F S vv M s E e v g len G x vb L)(hb:zW wr w'):Thi w w' B F S vv M s E e v g len G x vb L:=
 have hB:B<=wr.heap.size:=yh h.old.2 h.cuv.below.size
 ⟨h.sv.below hb,(hb.block _ (ya.1 h.ent).1).trans h.ent,h.now.below hb,h.mks,h.vis,qab h.row fun k hk=>hb.block k (h.row.lt k hk).2,h.old,h.cuv.trans (Cuv.of_below hb hB),h.tabs.kept (hb.mono hB)⟩
theorem Thi.alloc(h:Thi w wr B F S vv M s E e v g len G x vb L)(o:Obj):Thi w (wr.alloc o) B F S vv M s E e v g len G x vb L:=h.below (zB o)
theorem Thi.drew(h:Thi w wr B F S vv M s E e v g len G x vb L):Thi w wr.drew B F S vv M s E e v g len G x vb L:=h.below (xM _ _).drew
theorem Thi.drewN(h:Thi w wr B F S vv M s E e v g len G x vb L)(n:Nat):Thi w (wr.drewN n) B F S vv M s E e v g len G x vb L:=h.below (qat (xM _ _) n)
theorem Thi.turn(h:Thi w wr B F S vv M s E e v g len G x vb L){ext:List Nat}(hs:SvAt w' B F S vv' (M++ext) s')(hc:Cuv B F wr w')(hg:Gv s s'):Thi w w' B F S vv' (M++ext) s' E e v g len G x vb L:=by
 have k1:=hc.keep G _ _ _ h.now (qae h.now h.sv.se.blk qb5) (by decide) (by decide);have k3:=hc.keep E _ _ _ h.ent (qae h.ent h.sv.se.blk qb6) (by decide) (by decide);refine⟨hs,k3.trans h.ent,k1.trans h.now,?_,?_,qab h.row fun k hk=>?_,h.old,h.cuv.trans hc,h.tabs.kept hc.below⟩
 ·rw[yr (yb.1 h.mks).1];exact h.mks
 ·obtain⟨u,h1,h2⟩:=h.vis
  obtain⟨u',e1,_,e3⟩:=hg.vis v u h1;exact⟨u',e1,e3.trans h2⟩
 ·obtain⟨cur,ha⟩:=qac h.row k hk
  exact hc.keep k _ _ _ ha (qae ha h.sv.se.blk qr1) (by decide) (by decide)
theorem Thi.set(h:Thi w wr B F S vv M s E e v g len G x vb L)(y:Sx):Thi w (qdf wr G (zJ (y.st.mode:Int)) (zV y.st.name) (zV y.st.elem) (zI y.st.kind) (zI (y.st.read:Int)) (.bool y.ma.ref) (.bool y.st.esc) (zI y.ma.hex) (zI y.ma.pct) (zI y.ma.far)) B F S vv M s E e v g len G y vb L:=by
 have ha:=fun k (hk:k≠G)=>qha (w:=wr) hk (zJ (y.st.mode:Int)) (zV y.st.name) (zV y.st.elem) (zI y.st.kind) (zI (y.st.read:Int)) (.bool y.ma.ref) (.bool y.st.esc) (zI y.ma.hex) (zI y.ma.pct) (zI y.ma.far);have Ha:Below G wr (qdf wr G (zJ (y.st.mode:Int)) (zV y.st.name) (zV y.st.elem) (zI y.st.kind) (zI (y.st.read:Int)) (.bool y.ma.ref) (.bool y.st.esc) (zI y.ma.hex) (zI y.ma.pct) (zI y.ma.far)):=qfe (xM _ _) (yg _) _ _ _ _ _ _ _ _ _ _;have hs:=h.now.set y;generalize qdf wr G _ _ _ _ _ _ _ _ _ _=w' at ha Ha hs |-;have hB:=Ha.mono (yh h.old.2 h.old.1);refine⟨h.sv.far h.now ha,(ha _ (qae h.ent h.now qh2)).trans h.ent,hs,h.mks,h.vis,qab h.row fun k hk=>ha k ?_,h.old,⟨h.cuv.below.trans hB,fun k cs t fz hk h1 h2 h3=>(ha k (fun e=>?_)).trans (h.cuv.keep k cs t fz hk h1 h2 h3)⟩,h.tabs.kept hB⟩
 ·obtain⟨cur,hb⟩:=qac h.row k hk
  exact qae hb h.now qud
 ·have:=(ya.1 hk).1
  have:=h.old.1;omega
theorem Thi.mark(h:Thi w wr B F S vv M s E e v g len G x vb L)(a:Nat)(m:Int):Thi w (wr.setCell (zO g a) (zI m)) B F S vv M (s.mark v a m) E e v g len G x vb L:=by
 obtain⟨h1,h2⟩:=h.sv.mark h.mks a m;have:=h.turn (ext:=[]) (by rw[yw];exact h1) h2 (Gv.mark s v a m)
 rwa [yw]at this
theorem Thi.cell(h:Thi w wr B F S vv M s E e v g len G x vb L)(a:Nat)(ha:a<len):(∃z,wr.cell? (zO g a)=some (zI z))/\wr.frozen? (zO g a)=false:=by
 obtain⟨u,h1,h2⟩:=h.vis;obtain⟨hb,_⟩:=h.sv.marks v g u h.mks h1;refine⟨⟨u.2[a]'(by omega),?_⟩,by simp[World.frozen?,hb]⟩;refine qaa hb a _ ?_;simp[qe2]
theorem Thi.push(h:Thi w wr B F S vv M s E e v g len G x vb L){w0:World}{vb':Value}(b:Sx×Nat)(hf:zW wr w0)(hc:w'.ownsRow w.heap.size 234 11 vb' (L.length+1) (qgj L++qft b))(ha:w0.grownBy w' vb.ownBlock):Thi w w' B F S vv M s E e v g len G x vb' (L++[b]):=by
 have h0:=h.below hf;have Ha:∀(k:Nat) (cs:Array Value) (t:TypeId) (fz:Nat×Nat),w0.heap[k]?=some (.cells cs t fz)->t≠234->w'.heap[k]?=w0.heap[k]?:=fun k cs t fz hk ht=>ha.block k (ya.1 hk).1 (fun e=>by
  obtain⟨cur,Hc⟩:=qac h0.row k e.symm;exact qae hk Hc ht rfl)
 have he:∀b Lm,qfj w0 b Lm->w'.heap[b]?=w0.heap[b]?:=fun b Lm hm=>ha.block b hm.lt (fun e=>by
  obtain⟨cur,Hc⟩:=qac h0.row b e.symm;exact qak Hc hm rfl)
 have hb:∀k,vb.ownBlock=some k->w.heap.size<=k:=fun k hk=>(h0.row.lt k hk).1;obtain⟨cs',fz',Hf⟩:=h0.sv.se.src.blk;have hg:SeAt w' B F S vv s:=by
  refine⟨(Ha _ _ _ _ h0.sv.se.blk (by decide)).trans h0.sv.se.blk,h0.sv.se.src.kept (Ha _ _ _ _ Hf (by decide)) (fun i s' q hs hv=>?_),h0.sv.se.places.heap (he _ _ h0.sv.se.places),h0.sv.se.ends.heap (he _ _ h0.sv.se.ends),h0.sv.se.le,h0.sv.se.apart⟩;obtain⟨cur,He⟩:=qac (h0.sv.se.src.row i s' hs) q hv;exact Ha _ _ _ _ He (by decide)
 have Hg:SvAt w' B F S vv M s:=by
  refine⟨hg,h0.sv.nums.heap (he _ _ h0.sv.nums),qab h0.sv.row fun k hk=>?_,h0.sv.len,fun i g v hi hv=>?_,h0.sv.one,h0.sv.apart⟩
  ·obtain⟨cur,He⟩:=qac h0.sv.row k hk
   exact Ha _ _ _ _ He (by decide)
  ·obtain⟨q1,q2⟩:=h0.sv.marks i g v hi hv
   exact⟨(Ha _ _ _ _ q1 (by decide)).trans q1,q2⟩
 have Hb:Below w.heap.size w0 w':=⟨ha.os,ha.tape,ha.output,ha.size,fun k hk=>ha.block k (by have:=h0.cuv.below.size;omega) (fun e=>by have:=hb k e.symm;omega)⟩;refine⟨Hg,(Ha _ _ _ _ h0.ent (by decide)).trans h0.ent,(Ha _ _ _ _ h0.now (by decide)).trans h0.now,h0.mks,h0.vis,?_,h0.old,⟨h0.cuv.below.trans (Hb.mono h0.old.2),fun k cs t fz hk h1 h2 h3=>?_⟩,h0.tabs.kept (Hb.mono h0.old.2)⟩
 ·rw[yJ,qow];exact hc
 ·have Hi:=(ya.1 hk).1
  exact(ha.block k (by have:=h0.cuv.below.size;omega) (fun e=>by have:=hb k e.symm;omega)).trans (h0.cuv.keep k cs t fz hk h1 h2 h3)
end
section
open Go.Maps
theorem zd3{x:Sx}(h:SxFit x):∃l,keyOf prog 162 (qar x)=some l:=by
 obtain⟨h1,h2,h3,h4,h5,h6,h7⟩:=qz7 h.ok;have hf:=h.far;obtain⟨d,hs⟩:∃d,prog.types.size+1=d+3:=⟨prog.types.size - 2,by
  have:4<=prog.types.size:=by decide +kernel
  omega⟩
 obtain⟨l,hl⟩:=q7u d x.st.mode ⟨x.st.name.toArray⟩ ⟨x.st.elem.toArray⟩ x.st.kind x.st.read x.ma.ref x.st.esc x.ma.hex x.ma.pct x.ma.far h1 (by simp[ByteArray.size];unfold maxLen;omega) (by simp[ByteArray.size];unfold maxLen;omega) h4 h5 h6 h7 (WalkArith.wf_i64 (by omega));have hk:prog.keyType 162=true:=by kernel_rfl
 have ha:(qar x).formed prog 162=true:=by
  unfold qar Value.formed;simp[underlying162,ql2,qaf]
 unfold keyOf;simp only[underlying162];rw[hk,ha,hs];unfold qar qaf bs;simp[Value.cells,hl]
theorem q7n{x y:Sx}(h:qar x=qar y):x=y:=by
 have:=@qj5 (0,x) (0,y) (by
  unfold qar at h;injection h with h;unfold qge;simp only[h])
 injection this
theorem q2p(w:World){x y:Sx}(hx:SxFit x)(hy:SxFit y):(Op.equal 162 (qar x) (qar y)).run prog w=.ok (decide (x=y)) w:=by
 obtain⟨lx,h1⟩:=zd3 hx;obtain⟨ly,h2⟩:=zd3 hy;obtain⟨r,hr,ha⟩:=run_equal_deep w (m:=4) (by decide) (by kernel_rfl) (by kernel_rfl) h1 h2;rw[hr];have:r=decide (x=y):=by
  rw[xi,ha,decide_eq_true_iff];constructor
  ·intro e
   exact q7n (keyOf_inj_deep (m:=4) (k:=162) (by kernel_rfl) (by kernel_rfl) h1 (by rw[h2,e]))
  ·rintro rfl
   rw[h1]at h2;exact yk h2
 rw[this]
theorem qsk(w:World)(x y:Sx)(o1 o2:Operand):(eqGuard .neq 162 o1 o2 (qar x) (qar y)).run prog w=.ok () w:=by
 unfold eqGuard qar;simp[run_program]
theorem zd2(w:World){x y:Sx}(hx:SxFit x)(hy:SxFit y):(binOp .neq 162 (qar x) (qar y)).run prog w=.ok (.bool (!decide (x=y))) w:=by
 have h:=q2p w hx hy;unfold binOp qar;unfold qar at h;simp[h]
theorem qsl(w:World){x y:Sx}(hx:SxFit x)(hy:SxFit y):(Op.equalIn 10000 162 (qar x) (qar y)).run prog w=.ok (decide (x=y)) w:=by
 have h:=q2p w hx hy;unfold qar at h |-;simpa [Op.equal,Op.maxDepth]using h
section
variable {w wr w':World}{B:Nat}{F:Fix}{S:List Src}{vv vv':Value}{M M':List Nat}{s s':Sr}{E:Nat}{e:En}{v g len G:Nat}{x:Sx}{L:List (Sx×Nat)}{b:Sx×Nat}{av:Option Addr}{cv:Nat}
theorem qzd(L:List (Sx×Nat))(b:Sx×Nat):(qgj (L++[b])).take (L.length*11)=qgj L:=by
 rw[qow,<-qrp,List.take_left]
theorem Thi.pop(h:Thi w wr B F S vv M s E e v g len G x (.slice av (L++[b]).length cv) (L++[b])):Thi w wr B F S vv M s E e v g len G x (.slice av L.length cv) L:=by
 have hl:(L++[b]).length=L.length+1:=by simp
 have hr:=h.row;obtain⟨gb,cb,hg,_⟩:=qai hr (by omega);injection hg with ha Ha hb;subst ha;refine⟨h.sv,h.ent,h.now,h.mks,h.vis,?_,h.old,h.cuv,h.tabs⟩;have:=qjt hr L.length (by omega)
 rwa [qzd]at this
theorem Thi.last(h:Thi w wr B F S vv M s E e v g len G x (.slice av (L++[b]).length cv) (L++[b])):∃gb,av=some (zO gb 0)/\(L.length+1<=cv/\cv<=maxLen)/\∀j v,(qft b)[j]?=some v->wr.cell? (zO gb (L.length*11+j))=some v:=by
 have hl:(L++[b]).length=L.length+1:=by simp
 have hr:=h.row;have ha:L.length+1<=cv/\cv<=maxLen:=by
  rcases hr.2 with⟨h1,h2⟩|⟨g,cap,cur,hv,_,_,h3,h4,_⟩
  ·omega
  ·injection hv with Hb Hc Ha
   subst Ha;omega
 obtain⟨gb,cb,hg,_⟩:=qai hr (by omega);injection hg with hb he He;subst hb;refine⟨gb,rfl,ha,fun j v hv=>?_⟩;have hc:=qtx (L++[b]) L.length b (by simp) j v hv;exact(h.row.cellAt (L.length*11+j) (by have q:=(yb.1 hc).1;rw[qrp]at q;exact q)).trans hc
end
end
namespace Pl
def qh0(S:List Src)(s:Sr)(e:En)(len:Nat):Sr:=
 if(qd7 (behV S 257) (qah S e.1) ((qah S e.1).length+1) 0 s e.2).2.isNone=false/\(qd7 (behV S 257) (qah S e.1) ((qah S e.1).length+1) 0 s e.2).2≠e.2 then(qd7 (behV S 257) (qah S e.1) ((qah S e.1).length+1) 0 s e.2).1.wrong S e.1 15 len else(qd7 (behV S 257) (qah S e.1) ((qah S e.1).length+1) 0 s e.2).1
end Pl
theorem qy3(HB:qhp)(S:List Pl.Src)(hS:SrcsOk S)(w:World)(B:Nat)(F:Fix)(vv:Value)(s:Pl.Sr)(e:Pl.En)(len:Nat)(h:SeAt w B F S vv s)(ho:EndsOk S.length s.ends)(he:SxFit e.2)(hi:e.1<S.length)(hB:B<=w.heap.size)(ht:TabB B w) :
  zC 76 #[zP F.g,qge e,zI len] w fun ed w'=>(∃r,ed=.returned r)/\SeAt w' B F S vv (Pl.qh0 S s e len)/\Cue B F w w':=by
 have Hi:=qo6 (qke S 257 s.ends.length (by omega)) (Pl.qah S e.1) ((Pl.qah S e.1).length+1) 0 s e.2 ho (yg _) (.inr he);have hW:=fun(w5:World) (h5:SeAt w5 B F S vv s) (Hk:B<=w5.heap.size) (t5:TabB B w5)=>q2j HB S hS 257 (behC HB S hS 257) w5 B F vv s e h5 ho (by omega) he hi Hk t5;unfold Pl.qh0;generalize Pl.qd7 (Pl.behV S 257) (Pl.qah S e.1) ((Pl.qah S e.1).length+1) 0 s e.2=r at Hi hW |-;obtain⟨s2,y⟩:=r;simp only at Hi hW |-;obtain⟨R,hR⟩:∃R,R=(if y.isNone=false/\y≠e.2 then s2.wrong S e.1 15 len else s2):=⟨_,rfl⟩;rw[<-hR];have HR:=zH hR;clear hR;have ha:=fun w=>qu0 y w;have hl:=zH (fun(w5:World) (h5:SeAt w5 B F S vv s2) (Hk:B<=w5.heap.size)=>ql7 S w5 B F vv s2 e 15 len h5 hi Hk);have HA:=zH h;have HT:=zH ht;rw[qbj];rw[qbj]at hW hl;unfold qao bs;unfold qar qao qaf bs at hW;unfold qar qaf bs at ha;unfold qao bs at hl;have HW:=zH hW;have HE:Hid ((w.alloc (.cells (qao e) 180)).heap[w.heap.size]?=zK (qao e) 180):=xG w _;have He:Hid (∀w5,Cue B F (w.alloc (.cells (qao e) 180)) w5->w5.heap[w.heap.size]?=zK (qao e) 180):=fun w5 hc=>(hc.keep w.heap.size (by simp) (qae HE.out (h.alloc _).blk qb6) (qak HE.out (h.alloc _).ends)).trans HE.out;have Hl:Hid (∀w5,Cue B F (w.alloc (.cells (qao e) 180)) w5->Cue B F w w5):=fun w5 hc=>(Cue.of_below ((xM w.heap.size w).alloc (yg _) _) hB).trans hc;unfold qao bs at He Hl;have hm:=zH hB;clear h ht hW HE;go_enter func76,ntmps76
 go_wp2_with fail
 refine(HW.out _ (HA.out.alloc _) (yh hm.out (by simp)) (TabB.kept HT.out (((xM w.heap.size w).alloc (yg _) _).mono hm.out))).mono ?_;rintro ed w2 ⟨rfl,hj,Hg⟩;have hf:=zH hj;have Hc:=zH (He.out w2 Hg);have Hj:=zH (Hl.out w2 Hg);clear hj Hg;have Ho:B<=w2.heap.size:=yh hm.out Hj.out.below.size;have hk:=(show Hid (B<=w2.heap.size)from Ho);clear Ho HW He Hl HA HT;by_cases hn:y.isNone=true
 ·have hb:(y.st.mode==0)=true:=hn
  rw[hb]at ha;have HN:=zH hn;have HQ:Hid (R=s2):=by show _=_;rw[HR.out,if_neg (by rintro⟨h1,_⟩;rw[hn]at h1;cases h1)]
  clear hb hn;go_wp2_with fail
  refine(ha _).mono ?_;rintro ed w3 ⟨rfl,Hb⟩;have H3:Hid (SeAt w3 B F S vv s2/\Cue B F w2 w3):=by rw[<-Hb];exact⟨(hf.out.alloc _).alloc _,Cue.of_below ((zB _).alloc (by simp) _) hk.out⟩
  clear Hb;go_wp2_with fail
  go_end0
  exact⟨⟨_,rfl⟩,by rw[HQ.out];exact H3.out.1,Hj.out.trans H3.out.2⟩
 ·have Hm:=qq9 Hi.2 hn
  have Hn:y.isNone=false:=ye.2 hn;have hb:(y.st.mode==0)=false:=Hn;rw[hb]at ha;have heq:=fun w=>zd2 w Hm he;have hp:=fun w=>qsk w y e.2;have Hf:=fun w=>qsl w Hm he;unfold qar qaf bs at heq hp Hf;have HN:=zH Hn;clear hb hn Hn Hm Hi;by_cases hx:y=e.2
  ·rw[yV hx]at heq Hf
   have HQ:Hid (R=s2):=by show _=_;rw[HR.out,if_neg (fun q=>q.2 hx)]
   clear hx;go_wp2_with fail
   refine(ha _).mono ?_;rintro ed w3 ⟨rfl,Hb⟩;have H3:Hid (SeAt w3 B F S vv s2/\Cue B F w2 w3):=by rw[<-Hb];exact⟨(hf.out.alloc _).alloc _,Cue.of_below ((zB _).alloc (by simp) _) hk.out⟩
   have hy:StIn w3 w2.heap.size y:=by rw[<-Hb];exact(xJ _ _ (by simp)).trans (xG _ _)
   have Ha:w3.heap[w.heap.size]?=zK (qao e) 180:=(H3.out.2.keep w.heap.size (ya.1 Hc.out).1 (qae Hc.out hf.out.blk qb6) (qak Hc.out hf.out.ends)).trans Hc.out;have hg:=qct Ha;unfold qao bs at hg;have m0:=al hg;have q0:=hy.at'.all;clear hg Ha hy Hb;go_wp2_with fail
   go_end0
   exact⟨⟨_,rfl⟩,by rw[HQ.out];exact H3.out.1,Hj.out.trans H3.out.2⟩
  ·rw[yx hx]at heq Hf
   have HQ:Hid (R=s2.wrong S e.1 15 len):=by show _=_;rw[HR.out,if_pos ⟨HN.out,hx⟩]
   clear hx;go_wp2_with fail
   refine(ha _).mono ?_;rintro ed w3 ⟨rfl,Hb⟩;have H3:Hid (SeAt w3 B F S vv s2/\Cue B F w2 w3):=by rw[<-Hb];exact⟨(hf.out.alloc _).alloc _,Cue.of_below ((zB _).alloc (by simp) _) hk.out⟩
   have hy:StIn w3 w2.heap.size y:=by rw[<-Hb];exact(xJ _ _ (by simp)).trans (xG _ _)
   have Ha:w3.heap[w.heap.size]?=zK (qao e) 180:=(H3.out.2.keep w.heap.size (ya.1 Hc.out).1 (qae Hc.out hf.out.blk qb6) (qak Hc.out hf.out.ends)).trans Hc.out;have hg:=qct Ha;unfold qao bs at hg;have m0:=al hg;have q0:=hy.at'.all;clear hg Ha hy Hb;go_wp2_with fail
   refine(hl.out _ H3.out.1 (yh hk.out H3.out.2.below.size)).mono ?_;rintro ed w4 ⟨⟨r,rfl⟩,hj,Hg⟩;go_wp2_with fail
   go_end0
   exact⟨⟨_,rfl⟩,by rw[HQ.out];exact hj,Hj.out.trans (H3.out.2.trans Hg)⟩
theorem qwq(p:Sp)(n:Nat)(s:zT)(w:World)(ha:SpOk n p)(hn:n+s.size<=2000000000000000000) :
  zC 54 #[qaz p,.string s] w (zR (.tuple #[qaz (qei p s.data.toList),zI (wrongFrom p (-1) 0 s.data.toList)]) w):=
 qwp (fun p m b w=>q4p p m b w) p n s w ha hn
end Go.Proofs.YtfkhljmiehdgmaaGreatDoor
