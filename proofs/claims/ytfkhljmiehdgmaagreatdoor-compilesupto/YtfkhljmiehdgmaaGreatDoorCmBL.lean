/-
  Steps of the proof.
-/
import Derived.Test.YtfkhljmiehdgmaaGreatDoorCmBK
import Derived.Deep.OwnRows
import Derived.Deep.Onto
set_option maxRecDepth 100000
set_option maxHeartbeats 40000000
namespace Go.Proofs.YtfkhljmiehdgmaaGreatDoor
open Go.RowKit
theorem qkf{P:Program}{fn:Func}{R:Ending->World->Prop}{a:Act}{w:World}{t p:Tmp}{ty:TypeId}(h:fn.results=#[.tmp t,.cell p ty])(ha:a.defers=[])(g:Nat)(x u0 u1:Value)(hx:a.tmps.getD t undef=x)(hp:a.tmps.getD p undef=.pointer (some ⟨g,0,none⟩))
  (hb:w.heap[g]?=some (.cells #[u0,u1] ty (0,0))) (d:TypeDesc) (hu:P.underlying ty=some d) (hd:aggD d=true) (hi:(P.info? ty).map (·.size)=some 2) (hR:R (.returned (.tuple #[x,.agg #[u0,u1]])) w):bodyPost P fn R .ret a w:=by
 subst hx;refine bodyPost_ret ?_ ha hR;have hl:=qbl (P:=P) w g ty #[u0,u1] d (qaa hb) hu (by cases d<;>first|rfl|cases hd) hi
 rw[Array.getD_eq_getD_getElem?]at hp;simp only[results,h];simp[hp,asAddr,hl]
theorem q0d(T:ByteArray)(w:World)(hm:qaz w)(hs:T.size<=2000)(hR:qd2 T.data.toList) :
  Calls Tryz.prog 74 #[.string T] w fun e w'=>(∃v,e=.returned (.tuple #[v,qgx (Pl.qam T.data.toList).1.1 (Pl.qam T.data.toList).1.2])/\((Pl.qam T.data.toList).1.1=0->w'.ownsRow w.heap.size 229 4 v (Pl.qam T.data.toList).2.length (qb0 (Pl.qam T.data.toList).2)))/\Below w.heap.size w w':=by
 have hl:T.data.toList.length=T.size:=by simp
 have hg:(⟨T.data.toList.toArray⟩:ByteArray)=T:=by cases T;simp
 rw[Pl.qpi _ (by omega)];have Hg:11<w.heap.size:=by
  obtain⟨m,h⟩:=hm;exact World.block_lt_of_cell? _ _ h
 have hf:=fun w=>qvn T w (by omega)
 have Ha:=fun(w1:World) (hb:Below w.heap.size w w1)=>q90 (w1.alloc (.cells #[.string T,.string ⟨#[123,123]⟩,.string ⟨#[125,125]⟩,.slice none 0 0,.slice none 0 0] 222)) w.heap.size w1.heap.size T.data.toList Pl.Ct.start (.slice none 0 0) (.slice none 0 0)
  ⟨by rw[heap_alloc_new];show _=some (Obj.cells #[.string (⟨T.data.toList.toArray⟩:ByteArray),_,_,_,_] _ _);rw[hg];rfl,World.ownsRow_nil _ _ _ _,World.ownsRow_nil _ _ _ _,hb.size⟩ (Pl.qh4 _) ((hm.below hb).below (ba _)) (by omega) hR Hg
 generalize Pl.Ct.start.rest T.data.toList 0=R at Ha |-;have c1:¬(2000:Int)<(T.size:Int):=by omega
 have Hf:=hd hf;have He:=hd Ha;clear hf Ha hm hR;by_cases h0:R.1.1=0
 ·have e0:(R.1.1:Int)=0:=by omega
  rw[if_pos h0];go_enter Tryz.func74,Tryz.ntmps74
  go_wp2_with (first
   |(go_at_call 73;refine Calls.mono (Hf.out _) ?_;rintro e w1 ⟨rfl,hb⟩;have Hb:Hid (Below w.heap.size w w1):=((Below.refl w.heap.size w).alloc (Nat.le_refl _) _).trans (hb.mono (by simp));have Hc:Hid (w1.heap[w.heap.size]?=some (.cells #[.int .i64 0,.int .i64 0] 169 (0,0))):=(hb.block _ (by simp)).trans (heap_alloc_new w _);clear hb)
   | (go_at_call 104;refine Calls.mono (He.out _ Hb.out) ?_;rintro e w2 ⟨rfl,hc,hx⟩;unfold qgx;have HC:Hid (Cur w.heap.size w1.heap.size (w1.alloc (.cells #[.string T,.string ⟨#[123,123]⟩,.string ⟨#[125,125]⟩,.slice none 0 0,.slice none 0 0] 222)) w2):=hc;obtain⟨c,vp,vo,hA,hP⟩:=hx h0;have b3:∀o,(w2.alloc o).cell? ⟨w1.heap.size,3,none⟩=some vp:=fun o=>(hA.alloc o).cell 3 _ rfl;have ha:w.heap.size<w1.heap.size:=(Array.getElem?_eq_some_iff.1 Hc.out).1;have z2:=(hc.keep _ _ _ _ ((heap_alloc_old w1 _ ha).trans Hc.out) (by omega) qb5 qcp).trans ((heap_alloc_old w1 _ ha).trans Hc.out);have he:w.heap.size<w2.heap.size:=(Array.getElem?_eq_some_iff.1 z2).1;obtain⟨s0,s1,fs0,fs1⟩:=qe2 z2;have HZ:=hd z2;have HA:=hd hA;have HP:=hd hP;clear hc hx hA hP z2))
  have hW:=qpd HZ.out (.int .i64 0) (.int .i64 0);refine qkf Tryz.results74 rfl w.heap.size vp (.int .i64 0) (.int .i64 0) rfl rfl ((heap_alloc_old _ _ (by simp;exact he)).trans hW) _ Tryz.underlying169 rfl (by kernel_rfl) ?_;refine⟨⟨_,rfl,fun _=>?_⟩,?_⟩
  ·have h1:=(((HA.out.setSlip HZ.out 0 (.int .i64 0)).setSlip (heap_setCell_same _ _ _ _ _ _ HZ.out) 1 (.int .i64 0)).alloc (.cells #[.int .i64 0,.int .i64 R.1.2] 169)).parts
   rw[HP.out]at h1;exact h1
  ·exact((((Hb.out.alloc Hb.out.size _).trans HC.out.below).setCell (p:=⟨w.heap.size,0,none⟩) (Nat.le_refl _) _).setCell (p:=⟨w.heap.size,1,none⟩) (Nat.le_refl _) _).alloc (by simp;omega) _
 ·have e0:¬(R.1.1:Int)=0:=by omega
  rw[if_neg h0];go_enter Tryz.func74,Tryz.ntmps74
  go_wp2_with (first
   |(go_at_call 73;refine Calls.mono (Hf.out _) ?_;rintro e w1 ⟨rfl,hb⟩;have Hb:Hid (Below w.heap.size w w1):=((Below.refl w.heap.size w).alloc (Nat.le_refl _) _).trans (hb.mono (by simp));have Hc:Hid (w1.heap[w.heap.size]?=some (.cells #[.int .i64 0,.int .i64 0] 169 (0,0))):=(hb.block _ (by simp)).trans (heap_alloc_new w _);clear hb)
   | (go_at_call 104;refine Calls.mono (He.out _ Hb.out) ?_;rintro e w2 ⟨rfl,hc,hx⟩;unfold qgx;have HC:Hid (Cur w.heap.size w1.heap.size (w1.alloc (.cells #[.string T,.string ⟨#[123,123]⟩,.string ⟨#[125,125]⟩,.slice none 0 0,.slice none 0 0] 222)) w2):=hc;have ha:w.heap.size<w1.heap.size:=(Array.getElem?_eq_some_iff.1 Hc.out).1;have z2:=(hc.keep _ _ _ _ ((heap_alloc_old w1 _ ha).trans Hc.out) (by omega) qb5 qcp).trans ((heap_alloc_old w1 _ ha).trans Hc.out);have he:w.heap.size<w2.heap.size:=(Array.getElem?_eq_some_iff.1 z2).1;obtain⟨s0,s1,fs0,fs1⟩:=qe2 z2;have HZ:=hd z2;clear hc hx z2))
  go_region
  all_goals
   go_wp2_with fail
   have hW:=qpd HZ.out (.int .i64 R.1.1) (.int .i64 R.1.2);refine qkf Tryz.results74 rfl w.heap.size (.slice none 0 0) (.int .i64 R.1.1) (.int .i64 R.1.2) rfl rfl ((heap_alloc_old _ _ (by simp;exact he)).trans hW) _ Tryz.underlying169 rfl (by kernel_rfl) ?_;refine⟨⟨_,rfl,fun h1=>absurd h1 h0⟩,?_⟩;exact(((((Hb.out.alloc Hb.out.size _).trans HC.out.below).setCell (p:=⟨w.heap.size,0,none⟩) (Nat.le_refl _) _).setCell (p:=⟨w.heap.size,1,none⟩) (Nat.le_refl _) _).alloc (by simp;omega) _).drew
theorem qtx(T:ByteArray)(w:World)(hs:2000<T.size) :
  Calls Tryz.prog 74 #[.string T] w fun e w'=>e=.returned (.tuple #[.slice none 0 0,qgx 1 0])/\Below w.heap.size w w':=by
 have c1:(2000:Int)<(T.size:Int):=by omega
 unfold qgx;go_enter Tryz.func74,Tryz.ntmps74
 go_wp2_with fail
 refine qkf Tryz.results74 rfl w.heap.size (.slice none 0 0) (.int .i64 1) (.int .i64 0) rfl rfl (heap_alloc_new w _) _ Tryz.underlying169 rfl (by kernel_rfl) ?_;exact⟨rfl,ba _⟩
theorem qwn(T:ByteArray)(w:World)(hm:qaz w)(hR:qd2 T.data.toList) :
  Calls Tryz.prog 74 #[.string T] w fun e w'=>(∃v,e=.returned (.tuple #[v,qgx (Pl.qam T.data.toList).1.1 (Pl.qam T.data.toList).1.2])/\((Pl.qam T.data.toList).1.1=0->w'.ownsRow w.heap.size 229 4 v (Pl.qam T.data.toList).2.length (qb0 (Pl.qam T.data.toList).2)))/\Below w.heap.size w w':=by
 by_cases hs:T.size<=2000
 ·exact q0d T w hm hs hR
 ·have hl:T.data.toList.length=T.size:=by simp
  have hc:Pl.qam T.data.toList=((1,0),[]):=by unfold Pl.qam;rw[if_pos (by omega)]
  rw[hc];refine(qtx T w (by omega)).mono ?_;rintro e w' ⟨rfl,hb⟩;exact⟨⟨_,rfl,fun h=>by cases h⟩,hb⟩
def qku(f:Pl.Ft):Value:=.agg #[.int .i64 f.code,.int .i64 f.kind,bs f.place,.int .i64 f.pos]
def qaq(L:List (ByteArray×ByteArray)):List (List UInt8×List UInt8):=L.map fun x=>(x.1.data.toList,x.2.data.toList)
def qpx(w:World)(v:Value)(L:List (ByteArray×ByteArray)):Prop:=∃ao cap,v=.slice ao L.length cap/\L.length<=cap/\cap<=maxLen/\(L≠[]->∃b,ao=some ⟨b,0,none⟩/\PsAt w b L)
def zbe(w:World)(B:Nat)(p:Value)(r:List (Nat×List Int)×List Pl.Src):Prop:=∃g F vv M s B',p=.pointer (some ⟨g,0,none⟩)/\w.heap[g]?=some (.cells #[vv] 81 (0,0))/\B<=B'/\SvAt w B' F r.2 vv M s/\s.vis=r.1
def qz0:Prop:=∀(T:ByteArray) (v:Value) (L:List (ByteArray×ByteArray)) (w:World),qpx w v L->PTabs w->qaz w->qd2 T.data.toList->(∀p∈L,qd2 p.2.data.toList) ->
    Calls Tryz.prog 12 #[.string T,v] w fun ed w'=>(∃p,ed=.returned (.tuple #[p,qku (Pl.qe9 T.data.toList (qaq L)).2])/\((Pl.qe9 T.data.toList (qaq L)).2.code≠0->p=.pointer none)/\((Pl.qe9 T.data.toList (qaq L)).2.code=0->zbe w' w.heap.size p (Pl.qe9 T.data.toList (qaq L)).1))/\Below w.heap.size w w'
end Go.Proofs.YtfkhljmiehdgmaaGreatDoor
namespace Go.Proofs.YtfkhljmiehdgmaaGreatDoor
open Go.RowKit Go.Maps
variable{P:Program}{w wr:World}{L M:List (Value×Value)}{S:List Pl.Src}{B R n:Nat}{F:Fix}
theorem qe0{fn:Func}{R:Ending->World->Prop}{a:Act}{t p:Tmp}{ty:TypeId}(h:fn.results=#[.tmp t,.cell p ty])(ha:a.defers=[])(g:Nat)(x:Value)(cs:Array Value)(hx:a.tmps.getD t undef=x)(hp:a.tmps.getD p undef=.pointer (some ⟨g,0,none⟩))
  (hb:w.heap[g]?=some (.cells cs ty (0,0))) (d:TypeDesc) (hu:P.underlying ty=some d) (hd:aggD d=true) (hi:(P.info? ty).map (·.size)=some cs.size) (hR:R (.returned (.tuple #[x,.agg cs])) w):bodyPost P fn R .ret a w:=by
 subst hx;refine bodyPost_ret ?_ ha hR;have hl:=qbl (P:=P) w g ty cs d (qaa hb) hu (by cases d<;>first|rfl|cases hd) hi
 rw[Array.getD_eq_getD_getElem?]at hp;simp only[results,h];simp[hp,asAddr,hl]
theorem qm2(s:Pl.Src):∀(l:List Pl.Src) (i:Nat),qbu i (l++[s])=qbu i l++[(bs s.name,.int .i64 (i+l.length:Nat))]
 |[],i=>by simp[qbu]
 |a::l,i=>by
   show(bs a.name,Value.int .i64 i)::qbu (i+1) (l++[s])=_;rw[qm2 s l (i+1)];show _::(qbu (i+1) l++[(bs s.name,Value.int .i64 ((i+1+l.length:Nat):Int))])=(bs a.name,Value.int .i64 i)::(qbu (i+1) l++[(bs s.name,Value.int .i64 ((i+(l.length+1):Nat):Int))]);rw[show i+1+l.length=i+(l.length+1) by omega]
theorem qj6(m:List Pl.Src):∀(l:List Pl.Src) (i:Nat),qbu i (l++m)=qbu i l++qbu (i+l.length) m
 |[],i=>by simp[qbu]
 |a::l,i=>by
   show(bs a.name,Value.int .i64 i)::qbu (i+1) (l++m)=(bs a.name,Value.int .i64 i)::(qbu (i+1) l++qbu (i+(l.length+1)) m);rw[qj6 m l (i+1),show i+1+l.length=i+(l.length+1) by omega]
theorem KeysOk.front{K:TypeId}(h:KeysOk P K (L++M)):KeysOk P K L:=
 ⟨fun p hp=>h.key p (List.mem_append_left _ hp),fun i j p q hi hj e=>h.one i j p q (by rw[List.getElem?_append_left (List.getElem?_eq_some_iff.1 hi).1];exact hi) (by rw[List.getElem?_append_left (List.getElem?_eq_some_iff.1 hj).1];exact hj) e⟩
theorem KeysOk.apart{K:TypeId}{x:Value×Value}(h:KeysOk P K (L++x::M)):∀p∈L,p.1≠x.1:=fun p hp e=>by
 obtain⟨i,hi⟩:=List.getElem?_of_mem hp;have hl:=(List.getElem?_eq_some_iff.1 hi).1;have:=h.one i L.length p x (by rw[List.getElem?_append_left hl];exact hi) (by simp) e;omega
theorem qw7(hS:SrcsOk S){k:Nat}{s:Pl.Src}(hk:1<=k)(hs:S[k]?=some s) :
  KeysOk Tryz.prog 9 (qbu 1 ((S.drop 1).take (k - 1)))/\(∀p∈qbu 1 ((S.drop 1).take (k - 1)),p.1≠bs s.name)/\qbu 1 ((S.drop 1).take (k - 1))++[(bs s.name,.int .i64 (k:Nat))]=qbu 1 ((S.drop 1).take k):=by
 have Hb:=(List.getElem?_eq_some_iff.1 hs).1;have hd:(S.drop 1)[k - 1]?=some s:=by rw[List.getElem?_drop,show 1+(k - 1)=k by omega];exact hs
 have Ha:=(List.getElem?_eq_some_iff.1 hd).1;have hb:((S.drop 1).take (k - 1)).length=k - 1:=by rw[List.length_take];omega
 have e1:(S.drop 1).take k=(S.drop 1).take (k - 1)++[s]:=by
  have h1:=List.take_succ_eq_append_getElem Ha;rw[show k - 1+1=k by omega]at h1;rw[h1]
  congr 2
  rw[List.getElem?_eq_getElem Ha]at hd;exact Option.some.inj hd
 have e2:qbu 1 ((S.drop 1).take (k - 1))++[(bs s.name,.int .i64 (k:Nat))]=qbu 1 ((S.drop 1).take k):=by
  rw[e1,qm2,hb,show 1+(k - 1)=k by omega]
 have ha:=qou hS;rw[<-List.take_append_drop k (S.drop 1),qj6,<-e2,List.append_assoc]at ha;exact⟨ha.front,KeysOk.apart (x:=(bs s.name,.int .i64 (k:Nat))) ha,e2⟩
structure Lki(w wr:World)(B:Nat)(F:Fix)(S:List Pl.Src)(R n:Nat):Prop where
 blk:wr.heap[F.g]?=some (.cells (qkj F S.length (.slice none 0 0) Pl.Ft.none) 178 (0,0))
 src:SrcAt wr B F S
 places:qfa wr F.bp (qbu 1 ((S.drop 1).take (n - 1)))
 ends:qfa wr F.be []
 nums:qfa wr F.bn []
 res:wr.heap[R]?=some (.cells #[.int .i64 0,.int .i64 0,.string ⟨#[]⟩,.int .i64 0] 31 (0,0))
 le:B<=F.g/\B<=F.be/\B<=F.bn/\B<=F.bp/\B<=R
 apart:F.g≠F.be/\F.bp≠F.be/\F.bn≠F.be/\F.bn≠F.bp
 below:Below B w wr
 old:w.heap.size<=F.g/\w.heap.size<=F.bp/\w.heap.size<=R/\w.heap.size<=wr.heap.size
 kp:∀k,k<w.heap.size->wr.heap[k]?=w.heap[k]?
theorem Lki.next{w':World}(h:Lki w wr B F S R n)(hb:Below wr.heap.size wr w')(hB:B<=wr.heap.size):Lki w w' B F S R n:=
 ⟨(hb.block _ (lta h.blk)).trans h.blk,h.src.kept (by obtain⟨cs,fz,hc⟩:=h.src.blk;exact hb.block _ (Array.getElem?_eq_some_iff.1 hc).1) (fun i s k hs hv=>by obtain⟨cur,hc⟩:=qad (h.src.row i s hs) k hv;exact hb.block _ (Array.getElem?_eq_some_iff.1 hc).1),h.places.heap (hb.block _ h.places.lt),h.ends.heap (hb.block _ h.ends.lt),h.nums.heap (hb.block _ h.nums.lt),(hb.block _ (lta h.res)).trans h.res,h.le,h.apart,h.below.trans (hb.mono hB),⟨h.old.1,h.old.2.1,h.old.2.2.1,Nat.le_trans h.old.2.2.2 hb.size⟩,fun k hk=>(hb.block k (Nat.lt_of_lt_of_le hk h.old.2.2.2)).trans (h.kp k hk)⟩
theorem Lki.put(h:Lki w wr B F S R n)(hS:SrcsOk S)(hn:1<=n){s:Pl.Src}(hs:S[n]?=some s) :
  ∃w',(Instr.mapUpdate 174 (.map (some F.bp)) (.string ⟨s.name.toArray⟩) (.int .i64 n)).run Tryz.prog wr=.ok () w'/\Lki w w' B F S R (n+1)/\w'.heap.size=wr.heap.size:=by
 obtain⟨k1,k2,k3⟩:=qw7 hS hn hs;obtain⟨kl,Ha⟩:=qwp ⟨s.name.toArray⟩ (by rw[qye];have:=hS.short n s hs;unfold maxLen;omega);obtain⟨w',h1,h2,h3,h4⟩:=qie (val:=.int .i64 n) qmb Tryz.underlying174 h.places k1 Ha k2;have hk:∀k,k<wr.heap.size->k≠F.bp->w'.heap[k]?=wr.heap[k]?:=fun k hk hb=>h3.block k hk (fun e=>hb (Option.some.inj e));refine⟨w',h1,?_,h4⟩;have ha:∀(k:Nat) (cs:Array Value) (t:TypeId) (fz:Nat×Nat),wr.heap[k]?=some (Obj.cells cs t fz)->w'.heap[k]?=wr.heap[k]?:=fun k cs t fz hc=>hk k (Array.getElem?_eq_some_iff.1 hc).1 (qak hc h.places);refine⟨(ha _ _ _ _ h.blk).trans h.blk,h.src.kept (by obtain⟨cs,fz,hc⟩:=h.src.blk;exact ha _ _ _ _ hc) (fun i s k hs hv=>by obtain⟨cur,hc⟩:=qad (h.src.row i s hs) k hv;exact ha _ _ _ _ hc),?_,h.ends.heap (hk _ h.ends.lt h.apart.2.1.symm),h.nums.heap (hk _ h.nums.lt h.apart.2.2.2),(ha _ _ _ _ h.res).trans h.res,h.le,h.apart,h.below.trans ⟨h3.os,h3.tape,h3.output,h3.size,fun k Hb=>h3.block k ?_ (fun e=>?_)⟩,⟨h.old.1,h.old.2.1,h.old.2.2.1,by rw[h4];exact h.old.2.2.2⟩,fun q hq=>(hk q (Nat.lt_of_lt_of_le hq h.old.2.2.2) (by have:=h.old.2.1;omega)).trans (h.kp q hq)⟩
 ·unfold bs at k3
  rw[k3]at h2;exact h2
 ·have:=h.below.size;have:=h.places.lt;have:=h.le.2.2.2.1;omega
 ·have:=h.le.2.2.2.1;have:=Option.some.inj e;omega
theorem Lki.drew(h:Lki w wr B F S R n)(hB:B<=wr.heap.size):Lki w wr.drew B F S R n:=h.next (Below.refl _ _).drew hB
def Pl.Sr.zero:Pl.Sr:=⟨[],[],[],Pl.Ft.none⟩
theorem Lki.start(h:Lki w wr B F S R n)(hn:S.length<=n):SvAt wr B F S (.slice none 0 0) [] Pl.Sr.zero:=by
 have e:(S.drop 1).take (n - 1)=S.drop 1:=List.take_of_length_le (by rw[List.length_drop];omega);have hp:=h.places;rw[e]at hp;exact⟨⟨h.blk,h.src,hp,h.ends,⟨h.le.1,h.le.2.1⟩,h.apart.1,h.apart.2.1⟩,h.nums,World.ownsRow_nil _ _ _ _,rfl,fun i g v hi=>by simp at hi,List.nodup_nil,h.apart.2.2.1,h.apart.2.2.2,h.le.2.2.1⟩
theorem qyy(hS:SrcsOk S):Pl.Pre S Pl.Sr.zero (0,Pl.Sx.start):=by
 exact⟨⟨Pl.qq8 _,fun p hp=>(by cases hp),fun i j p q hi=>(by simp[Pl.Sr.zero]at hi),fun p hp=>(by cases hp),fun p hp=>(by cases hp),rfl⟩,rfl,.inl ⟨rfl,rfl⟩,Pl.qiz,hS.few.1⟩
namespace Pl
theorem qyd(S:List Src)(s:Sr)(e:En)(len:Nat)(ho:EndsOk S.length s.ends)(he:SxFit e.2):(qhh S s e len).nums=s.nums/\(qhh S s e len).vis=s.vis:=by
 have ha:=qk6 (qgd S 257 s.ends.length (by omega)) (qab S e.1) ((qab S e.1).length+1) 0 s e.2 ho (Nat.le_refl _) (.inr he);unfold qhh;split
 ·exact⟨ha.1.nums,ha.1.vis⟩
 ·exact⟨ha.1.nums,ha.1.vis⟩
theorem qo3(S:List Src)(len:Nat):qef S len =
  if(qfs S 258 Sr.zero (0,Sx.start)).fault.code≠0 then([],(qfs S 258 Sr.zero (0,Sx.start)).fault)else
  if(qhh S (qfs S 258 Sr.zero (0,Sx.start)) (0,Sx.start) len).fault.code≠0 then([],(qhh S (qfs S 258 Sr.zero (0,Sx.start)) (0,Sx.start) len).fault)
  else((qhh S (qfs S 258 Sr.zero (0,Sx.start)) (0,Sx.start) len).vis,Ft.none):=by
 unfold qef qhh Sr.zero;simp only;split
 ·rfl
 ·split
  ·rename_i h
   rw[if_pos (by simp[Sr.wrong])];rfl
  ·rfl
end Pl
variable{w wr:World}{B R E:Nat}{S:List Pl.Src}{F:Fix}{vv:Value}{M:List Nat}{s:Pl.Sr}
theorem q3z{bS:Nat}{pv:Nat->Value}(ha:SrcAt w B ⟨0,bS,0,0,0,pv⟩ S)(hB:B<=w.heap.size) :
  Lki w (((((w.alloc (.cells #[.int .i64 0,.int .i64 0,.string ⟨#[]⟩,.int .i64 0] 31)).alloc (.map #[] 0)).alloc (.map #[] 0)).alloc (.map #[] 0)).alloc (.cells #[.slice (some ⟨bS,0,none⟩) S.length S.length,.map (some (w.heap.size+1)),.map (some (w.heap.size+1+1)),.map (some (w.heap.size+1+1+1)),.slice none 0 0,.int .i64 0,.int .i64 0,.string ⟨#[]⟩,.int .i64 0] 178)) B ⟨w.heap.size+1+1+1+1,bS,w.heap.size+1,w.heap.size+1+1,w.heap.size+1+1+1,pv⟩ S w.heap.size 1:=by
 have hb:Below w.heap.size w (((((w.alloc (.cells #[.int .i64 0,.int .i64 0,.string ⟨#[]⟩,.int .i64 0] 31)).alloc (.map #[] 0)).alloc (.map #[] 0)).alloc (.map #[] 0)).alloc (.cells #[.slice (some ⟨bS,0,none⟩) S.length S.length,.map (some (w.heap.size+1)),.map (some (w.heap.size+1+1)),.map (some (w.heap.size+1+1+1)),.slice none 0 0,.int .i64 0,.int .i64 0,.string ⟨#[]⟩,.int .i64 0] 178)):=
  ((((ba _).alloc (by simp<;>omega) _).alloc (by simp<;>omega) _).alloc (by simp<;>omega) _).alloc (by simp<;>omega) _
 have h0:=heap_alloc_new w (.cells #[.int .i64 0,.int .i64 0,.string ⟨#[]⟩,.int .i64 0] 31);refine⟨qal _ _ _ (by simp<;>omega),?_,⟨#[],0,?_,rfl⟩,⟨#[],0,?_,rfl⟩,⟨#[],0,?_,rfl⟩,?_,?_,?_,hb.mono hB,?_,fun k hk=>hb.block k hk⟩
 ·refine SrcAt.kept (F:=⟨w.heap.size+1+1+1+1,bS,w.heap.size+1,w.heap.size+1+1,w.heap.size+1+1+1,pv⟩) ⟨ha.blk,ha.name,ha.slice,ha.row⟩ (by obtain⟨cs,fz,hc⟩:=ha.blk;exact hb.block _ (Array.getElem?_eq_some_iff.1 hc).1) (fun i s k hs hv=>by obtain⟨cur,hc⟩:=qad (ha.row i s hs) k hv;exact hb.block _ (Array.getElem?_eq_some_iff.1 hc).1)
 ·exact(heap_alloc_old _ _ (by simp<;>omega)).trans ((heap_alloc_old _ _ (by simp<;>omega)).trans ((heap_alloc_old _ _ (by simp<;>omega)).trans (qal (w.alloc _) _ _ (by simp<;>omega))))
 ·exact(heap_alloc_old _ _ (by simp<;>omega)).trans ((heap_alloc_old _ _ (by simp<;>omega)).trans (qal ((w.alloc _).alloc _) _ _ (by simp<;>omega)))
 ·exact(heap_alloc_old _ _ (by simp<;>omega)).trans (qal (((w.alloc _).alloc _).alloc _) _ _ (by simp<;>omega))
 ·exact(heap_alloc_old _ _ (by simp<;>omega)).trans ((heap_alloc_old _ _ (by simp<;>omega)).trans ((heap_alloc_old _ _ (by simp<;>omega)).trans ((heap_alloc_old _ _ (by simp<;>omega)).trans h0)))
 ·exact⟨by simp only;omega,by simp only;omega,by simp only;omega,by simp only;omega,hB⟩
 ·exact⟨by simp only;omega,by simp only;omega,by simp only;omega,by simp only;omega⟩
 ·exact⟨by simp only;omega,by simp only;omega,Nat.le_refl _,hb.size⟩
theorem qg3{g:Nat}{t:TypeId}{u0 u1 u2 u3:Value}(h:w.heap[g]?=some (.cells #[u0,u1,u2,u3] t (0,0)))(v0 v1 v2 v3:Value) :
  ((((w.setCell ⟨g,0,none⟩ v0).setCell ⟨g,1,none⟩ v1).setCell ⟨g,2,none⟩ v2).setCell ⟨g,3,none⟩ v3).heap[g]?=some (.cells #[v0,v1,v2,v3] t (0,0)):=
 qhb (t:=t) [v0,v1,v2,v3] w 0 [] [u0,u1,u2,u3] h rfl rfl
theorem qeb:(31:TypeId)≠178:=by decide
theorem qdm:(31:TypeId)≠173:=by decide
theorem qfd:(31:TypeId)≠229:=by decide
theorem qeq:(31:TypeId)≠205:=by decide
theorem qf4:(31:TypeId)≠3:=by decide
theorem SvAt.other(h:SvAt w B F S vv M s){k:Nat}{cs:Array Value}{t:TypeId}{fz:Nat×Nat}(hk:w.heap[k]?=some (.cells cs t fz))(h1:t≠178)(h2:t≠173)(h3:t≠229)(h4:t≠205)(h5:t≠3)(j:Nat)(v:Value):SvAt (w.setCell ⟨k,j,none⟩ v) B F S vv M s:=
 h.kept (h.se.other hk h1 h2 h3 j v) fun i hi ha Ha=>Below.heap_setCell _ _ _ _ fun e=>by
  subst e;rcases ha _ _ _ hk with q|q
  ·exact h4 q
  ·exact h5 q
theorem SvAt.fault4(h:SvAt w B F S vv M s){g:Nat}{u0 u1 u2 u3:Value}(hk:w.heap[g]?=some (.cells #[u0,u1,u2,u3] 31 (0,0)))(v0 v1 v2 v3:Value) :
  SvAt ((((w.setCell ⟨g,0,none⟩ v0).setCell ⟨g,1,none⟩ v1).setCell ⟨g,2,none⟩ v2).setCell ⟨g,3,none⟩ v3) B F S vv M s:=by
 have h1:(w.setCell ⟨g,0,none⟩ v0).heap[g]?=_:=heap_setCell_same _ _ _ _ _ _ hk;have h2:((w.setCell ⟨g,0,none⟩ v0).setCell ⟨g,1,none⟩ v1).heap[g]?=_:=heap_setCell_same _ _ _ _ _ _ h1;have h3:(((w.setCell ⟨g,0,none⟩ v0).setCell ⟨g,1,none⟩ v1).setCell ⟨g,2,none⟩ v2).heap[g]?=_:=heap_setCell_same _ _ _ _ _ _ h2;exact(((h.other hk qeb qdm qfd qeq qf4 0 v0).other h1 qeb qdm qfd qeq qf4 1 v1).other h2 qeb qdm qfd qeq qf4 2 v2).other h3 qeb qdm qfd qeq qf4 3 v3
def q7o(w w':World):Prop:=∀(k:Nat) (cs:Array Value) (t:TypeId) (fz:Nat×Nat),w.heap[k]?=some (.cells cs t fz)->t≠205->t≠3->w'.heap[k]?=w.heap[k]?
structure Lkj(w wr:World)(B:Nat)(F:Fix)(S:List Pl.Src)(vv:Value)(M:List Nat)(s:Pl.Sr)(R E:Nat):Prop where
 sv:SvAt wr B F S vv M s
 res:wr.heap[R]?=some (.cells #[.int .i64 0,.int .i64 0,.string ⟨#[]⟩,.int .i64 0] 31 (0,0))
 ent:wr.heap[E]?=some (.cells (qao (0,Pl.Sx.start)) 180 (0,0))
 below:Below B w wr
 le:B<=R
 old:w.heap.size<=F.g/\w.heap.size<=R
 kp:q7o w wr
theorem Lkj.turn{w':World}{vv':Value}{M':List Nat}{s':Pl.Sr}(h:Lkj w wr B F S vv M s R E)(hs:SvAt w' B F S vv' M' s')(hc:Cuv B F wr w'):Lkj w w' B F S vv' M' s' R E:=
 ⟨hs,(hc.keep R _ _ _ h.res (qae h.res h.sv.se.blk qeb) qeq qf4).trans h.res,(hc.keep E _ _ _ h.ent (qae h.ent h.sv.se.blk qb2) (by decide) (by decide)).trans h.ent,h.below.trans hc.below,h.le,h.old,fun k cs t fz hk h1 h2=>(hc.keep k cs t fz ((h.kp k cs t fz hk h1 h2).trans hk) (by have:=(Array.getElem?_eq_some_iff.1 hk).1;have:=h.old.1;omega) h1 h2).trans (h.kp k cs t fz hk h1 h2)⟩
theorem Lkj.set(h:Lkj w wr B F S vv M s R E)(v0 v1 v2 v3:Value) :
  ((((wr.setCell ⟨R,0,none⟩ v0).setCell ⟨R,1,none⟩ v1).setCell ⟨R,2,none⟩ v2).setCell ⟨R,3,none⟩ v3).heap[R]?=some (.cells #[v0,v1,v2,v3] 31 (0,0))/\Below B w ((((wr.setCell ⟨R,0,none⟩ v0).setCell ⟨R,1,none⟩ v1).setCell ⟨R,2,none⟩ v2).setCell ⟨R,3,none⟩ v3)/\SvAt ((((wr.setCell ⟨R,0,none⟩ v0).setCell ⟨R,1,none⟩ v1).setCell ⟨R,2,none⟩ v2).setCell ⟨R,3,none⟩ v3) B F S vv M s/\q7o w ((((wr.setCell ⟨R,0,none⟩ v0).setCell ⟨R,1,none⟩ v1).setCell ⟨R,2,none⟩ v2).setCell ⟨R,3,none⟩ v3):=
 ⟨qg3 h.res _ _ _ _,(((h.below.setCell (p:=⟨R,0,none⟩) h.le v0).setCell (p:=⟨R,1,none⟩) h.le v1).setCell (p:=⟨R,2,none⟩) h.le v2).setCell (p:=⟨R,3,none⟩) h.le v3,h.sv.fault4 h.res _ _ _ _,fun k cs t fz hk h1 h2=>by
  have ha:k≠R:=by have:=(Array.getElem?_eq_some_iff.1 hk).1;have:=h.old.2;omega
  exact(Below.heap_setCell _ _ _ _ ha).trans ((Below.heap_setCell _ _ _ _ ha).trans ((Below.heap_setCell _ _ _ _ ha).trans ((Below.heap_setCell _ _ _ _ ha).trans (h.kp k cs t fz hk h1 h2))))⟩
theorem q6g(HB:qg9)(S:List Pl.Src)(hS:SrcsOk S)(Hu:ThrC S 258)(w:World)(B bS:Nat)(pv:Nat->Value)(len:Nat)(hb:SrcAt w B ⟨0,bS,0,0,0,pv⟩ S)(hB:B<=w.heap.size)(ht:TabB B w) :
  Calls Tryz.prog 45 #[.slice (some ⟨bS,0,none⟩) S.length S.length,.int .i64 len] w fun ed w'=>(∃v,ed=.returned (.tuple #[v,qku (Pl.qef S len).2])/\((Pl.qef S len).2.code=0->∃F M s,SvAt w' B F S v M s/\s.vis=(Pl.qef S len).1))/\Below B w w'/\q7o w w':=by
 have hL:=q3z hb hB;have HT:=(show Hid (TabB B w)from ht);have hg:=(show Hid (B<=w.heap.size)from hB);have hl:1<=S.length:=hS.few.1;have Hy:(S.length:Int)<=7:=by have:=hS.few.2;omega
 obtain⟨r,hr⟩:∃r,r=Pl.qef S len:=⟨_,rfl⟩;rw[<-hr];have HR:=hd hr;have hv:=fun(t:TypeId) (w:World)=>run_makeMap (P:=Tryz.prog) t w;clear hb hB ht hr;go_enter Tryz.func45,Tryz.ntmps45
 go_wp2_with fail
 obtain⟨F,hF⟩:∃F:Fix,F=⟨w.heap.size+1+1+1+1,bS,w.heap.size+1,w.heap.size+1+1,w.heap.size+1+1+1,pv⟩:=⟨_,rfl⟩;rw[<-hF]at hL;have eg:w.heap.size+1+1+1+1=F.g:=by rw[hF]
 have eS:F.bS=bS:=by rw[hF]
 have HL:=hd hL;clear hL hF;generalize World.alloc _ (Obj.cells _ 178)=w1 at HL |-;rw[eg];clear eg;generalize w.heap.size=R at HL |-;have Hg:=fun w=>q47 w;have est:qap Pl.Sx.start=.agg #[.int .u8 1,.string ⟨#[]⟩,.string ⟨#[]⟩,.int .i64 0,.int .i64 0,.bool false,.bool false,.int .i64 0,.int .i64 0,.int .i64 0]:=rfl;rw[est]at Hg;have Hv:=hd Hg;have Hl:Hid (∀w5,SvAt w5 B F S (.slice none 0 0) [] Pl.Sr.zero->TabB B w5->Calls Tryz.prog 75 #[.pointer (some ⟨F.g,0,none⟩),.agg #[.int .i64 0,.int .u8 1,.string ⟨#[]⟩,.string ⟨#[]⟩,.int .i64 0,.int .i64 0,.bool false,.bool false,.int .i64 0,.int .i64 0,.int .i64 0]] w5 fun ed w'=>(∃r,ed=.returned r)/\(∃vv' ext,SvAt w' B F S vv' ([]++ext) (Pl.qfs S 258 Pl.Sr.zero (0,Pl.Sx.start)))/\Cuv B F w5 w'):=fun w5 h5 t5=>Hu w5 B F _ [] Pl.Sr.zero (0,Pl.Sx.start) h5 (qyy hS) (by show 258<=0+258;omega) t5;obtain⟨s1,hi⟩:∃s1,s1=Pl.qfs S 258 Pl.Sr.zero (0,Pl.Sx.start):=⟨_,rfl⟩;have HI:=hd (Pl.qr5 S 258 Pl.Sr.zero (0,Pl.Sx.start) (qyy hS) (by show 258<=0+258;omega));have hc:=Pl.qo3 S len;rw[<-HR.out,<-hi]at hc;rw[<-hi]at Hl HI;have hm:=hd hc;clear Hg est hi HR hc hv;go_loopw [7] (fun i wr=>∃n:Nat,1<=n/\n<=S.length/\i=.int .i64 n/\Hid (Lki w wr B F S R n)) (fun i _=>S.length - (intOf i).toNat)
 case atStart=>exact⟨1,Nat.le_refl _,hl,rfl,HL.out⟩
 case round=>
  obtain⟨n,Hm,hw,rfl,HK⟩:=hrel;clear HL;have He:B<=wr.heap.size:=Nat.le_trans hg.out HK.out.below.size;by_cases hn:n<S.length
  ·have Hi:(n:Int)<(S.length:Int):=by omega
   obtain⟨src,hb⟩:∃src,S[n]?=some src:=⟨S[n],List.getElem?_eq_getElem hn⟩;have b1:wr.cell? ⟨F.g,1,none⟩=some (.map (some F.bp)):=qaa HK.out.blk 1 _ rfl;have b2:wr.cell? ⟨bS,n*2,none⟩=some (.string ⟨src.name.toArray⟩):=by
    have:=HK.out.src.name n src hb;rw[eS]at this;exact this
   obtain⟨w3,Hw,Hn,hx⟩:=(HK.out.drew He).put hS Hm hb;have Hx:=hd Hn;clear Hn hx hb He;go_wp2_with fail
   go_region
   all_goals
    go_wp2_with fail
    go_roundw
    case rel=>exact⟨n+1,by omega,by omega,by go_num,Hx.out⟩
    case measure=>simp[intOf];omega
  ·have Hi:¬(n:Int)<(S.length:Int):=by omega
   have ho:S.length<=n:=by omega
   have HN:=hd ho;clear hn ho Hm hw;go_wp2_with fail
   refine(Hv.out _).mono ?_;rintro ed w2 ⟨rfl,Ho⟩;have hj:Hid (Lki w w2 B F S R n):=by rw[<-Ho];exact HK.out.next (ba _) He
   have hp:B<=w2.heap.size:=Nat.le_trans hg.out hj.out.below.size;have hy:=(show Hid (B<=w2.heap.size)from hp);clear Ho HK He hp;go_wp2_with fail
   have Hb:=hd (hj.out.next (ba (.cells (qao (0,Pl.Sx.start)) 180)) hy.out);have Hf:Hid (Lkj w (w2.alloc (.cells (qao (0,Pl.Sx.start)) 180)) B F S (.slice none 0 0) [] Pl.Sr.zero R w2.heap.size):=⟨Hb.out.start HN.out,Hb.out.res,heap_alloc_new _ _,Hb.out.below,Hb.out.le.2.2.2.2,⟨Hb.out.old.1,Hb.out.old.2.2.1⟩,fun k _ _ _ hk _ _=>Hb.out.kp k (Array.getElem?_eq_some_iff.1 hk).1⟩;refine(Hl.out _ Hf.out.sv (TabB.kept HT.out Hf.out.below)).mono ?_;rintro ed w6 ⟨⟨r6,rfl⟩,⟨vv',ext,Hp⟩,Hc⟩;have Ha:=hd (Hf.out.turn Hp Hc);clear Hp Hc Hb Hf hj;generalize w2.heap.size=E at Ha |-;by_cases h0:s1.fault.code=0
   rotate_left
   ·have hq:((s1.fault.code:Int)==0)=false:=by rw[beq_eq_false_iff_ne];omega
    have Hq:((s1.fault.code:Int) != 0)=true:=by rw[bne_iff_ne];omega
    have HX:Hid (r=([],s1.fault)):=by show _=_;rw[hm.out,if_pos h0]
    have H0:=hd h0;have b5:w6.cell? ⟨F.g,5,none⟩=some (.int .i64 (s1.fault.code:Nat)):=Ha.out.sv.se.cell 5 _ rfl;have b6:w6.cell? ⟨F.g,6,none⟩=some (.int .i64 s1.fault.kind):=Ha.out.sv.se.cell 6 _ rfl;have b7:w6.cell? ⟨F.g,7,none⟩=some (.string ⟨s1.fault.place.toArray⟩):=Ha.out.sv.se.cell 7 _ rfl;have b8:w6.cell? ⟨F.g,8,none⟩=some (.int .i64 (s1.fault.pos:Nat)):=Ha.out.sv.se.cell 8 _ rfl;have x0:w6.cell? ⟨R,0,none⟩=some (.int .i64 0):=qaa Ha.out.res 0 _ rfl;have x1:w6.cell? ⟨R,1,none⟩=some (.int .i64 0):=qaa Ha.out.res 1 _ rfl;have x2:w6.cell? ⟨R,2,none⟩=some (.string ⟨#[]⟩):=qaa Ha.out.res 2 _ rfl;have x3:w6.cell? ⟨R,3,none⟩=some (.int .i64 0):=qaa Ha.out.res 3 _ rfl;have z0:w6.frozen? ⟨R,0,none⟩=false:=by simp[World.frozen?,Ha.out.res]
    have z1:w6.frozen? ⟨R,1,none⟩=false:=by simp[World.frozen?,Ha.out.res]
    have z2:w6.frozen? ⟨R,2,none⟩=false:=by simp[World.frozen?,Ha.out.res]
    have z3:w6.frozen? ⟨R,3,none⟩=false:=by simp[World.frozen?,Ha.out.res]
    clear h0;go_wp2_with fail
    go_region
    all_goals
     go_wp2_with fail
     have hf:=Ha.out.set (.int .i64 (s1.fault.code:Nat)) (.int .i64 s1.fault.kind) (.string ⟨s1.fault.place.toArray⟩) (.int .i64 (s1.fault.pos:Nat));refine qe0 Tryz.results45 rfl R (.slice none 0 0) _ rfl rfl hf.1 _ Tryz.underlying31 rfl (by kernel_rfl) ?_;exact⟨⟨_,by rw[HX.out];rfl,fun q=>absurd q (by rw[HX.out];exact H0.out)⟩,hf.2.1.drew,hf.2.2.2⟩
   ·have hq:((s1.fault.code:Int)==0)=true:=by rw[h0];rfl
    have b5:w6.cell? ⟨F.g,5,none⟩=some (.int .i64 (s1.fault.code:Nat)):=Ha.out.sv.se.cell 5 _ rfl;have he:=qcn Ha.out.ent;have een:qao (0,Pl.Sx.start)=#[.int .i64 0,.int .u8 1,.string ⟨#[]⟩,.string ⟨#[]⟩,.int .i64 0,.int .i64 0,.bool false,.bool false,.int .i64 0,.int .i64 0,.int .i64 0]:=rfl;rw[een]at he;have m0:=he 0 _ rfl;have m1:=he 1 _ rfl;have m2:=he 2 _ rfl;have m3:=he 3 _ rfl;have m4:=he 4 _ rfl;have m5:=he 5 _ rfl;have m6:=he 6 _ rfl;have m7:=he 7 _ rfl;have m8:=he 8 _ rfl;have m9:=he 9 _ rfl;have m10:=he 10 _ rfl;have Hr:B<=w6.heap.size:=Nat.le_trans hg.out Ha.out.below.size;have hs:=qvo HB S hS w6 B F vv' s1 (0,Pl.Sx.start) len Ha.out.sv.se HI.out.1.ends Pl.qiz hl Hr (TabB.kept HT.out Ha.out.below);have Hj:Hid (Calls Tryz.prog 76 #[.pointer (some ⟨F.g,0,none⟩),.agg #[.int .i64 0,.int .u8 1,.string ⟨#[]⟩,.string ⟨#[]⟩,.int .i64 0,.int .i64 0,.bool false,.bool false,.int .i64 0,.int .i64 0,.int .i64 0],.int .i64 len] w6 fun ed w'=>(∃r,ed=.returned r)/\SeAt w' B F S vv' (Pl.qhh S s1 (0,Pl.Sx.start) len)/\Cue B F w6 w'):=hs;have Hk:=Pl.qyd S s1 (0,Pl.Sx.start) len HI.out.1.ends Pl.qiz;have hc:r=if(Pl.qhh S s1 (0,Pl.Sx.start) len).fault.code≠0 then([],(Pl.qhh S s1 (0,Pl.Sx.start) len).fault)else((Pl.qhh S s1 (0,Pl.Sx.start) len).vis,Pl.Ft.none):=by rw[hm.out,if_neg (fun q=>q h0)]
    clear hs he een h0 Hr;generalize Pl.qhh S s1 (0,Pl.Sx.start) len=s2 at Hj Hk hc;have Hs:=hd hc;have Ht:=hd Hk;clear hc Hk;go_wp2_with fail
    refine Hj.out.mono ?_;rintro ed w7 ⟨⟨r7,rfl⟩,hu,Hc⟩;have ha:=hd (Ha.out.turn (Ha.out.sv.turn hu Hc Ht.out.1 Ht.out.2) (Cuv.of_cue Ha.out.sv.se Hc));clear hu Hc Ha Hj b5 m0 m1 m2 m3 m4 m5 m6 m7 m8 m9 m10 hq;by_cases h0:s2.fault.code=0
    rotate_left
    ·have Hq:((s2.fault.code:Int) != 0)=true:=by rw[bne_iff_ne];omega
     have HX:Hid (r=([],s2.fault)):=by show _=_;rw[Hs.out,if_pos h0]
     have H0:=hd h0;have b5:w7.cell? ⟨F.g,5,none⟩=some (.int .i64 (s2.fault.code:Nat)):=ha.out.sv.se.cell 5 _ rfl;have b6:w7.cell? ⟨F.g,6,none⟩=some (.int .i64 s2.fault.kind):=ha.out.sv.se.cell 6 _ rfl;have b7:w7.cell? ⟨F.g,7,none⟩=some (.string ⟨s2.fault.place.toArray⟩):=ha.out.sv.se.cell 7 _ rfl;have b8:w7.cell? ⟨F.g,8,none⟩=some (.int .i64 (s2.fault.pos:Nat)):=ha.out.sv.se.cell 8 _ rfl;have x0:w7.cell? ⟨R,0,none⟩=some (.int .i64 0):=qaa ha.out.res 0 _ rfl;have x1:w7.cell? ⟨R,1,none⟩=some (.int .i64 0):=qaa ha.out.res 1 _ rfl;have x2:w7.cell? ⟨R,2,none⟩=some (.string ⟨#[]⟩):=qaa ha.out.res 2 _ rfl;have x3:w7.cell? ⟨R,3,none⟩=some (.int .i64 0):=qaa ha.out.res 3 _ rfl;have z0:w7.frozen? ⟨R,0,none⟩=false:=by simp[World.frozen?,ha.out.res]
     have z1:w7.frozen? ⟨R,1,none⟩=false:=by simp[World.frozen?,ha.out.res]
     have z2:w7.frozen? ⟨R,2,none⟩=false:=by simp[World.frozen?,ha.out.res]
     have z3:w7.frozen? ⟨R,3,none⟩=false:=by simp[World.frozen?,ha.out.res]
     clear h0;go_wp2_with fail
     go_region
     all_goals
      go_wp2_with fail
      have hf:=ha.out.set (.int .i64 (s2.fault.code:Nat)) (.int .i64 s2.fault.kind) (.string ⟨s2.fault.place.toArray⟩) (.int .i64 (s2.fault.pos:Nat));refine qe0 Tryz.results45 rfl R (.slice none 0 0) _ rfl rfl hf.1 _ Tryz.underlying31 rfl (by kernel_rfl) ?_;exact⟨⟨_,by rw[HX.out];rfl,fun q=>absurd q (by rw[HX.out];exact H0.out)⟩,hf.2.1.drew,hf.2.2.2⟩
    ·have Hq:((s2.fault.code:Int) != 0)=false:=by rw[h0];rfl
     have HX:Hid (r=(s2.vis,Pl.Ft.none)):=by show _=_;rw[Hs.out,if_neg (fun q=>q h0)]
     have b4:w7.cell? ⟨F.g,4,none⟩=some vv':=ha.out.sv.se.cell 4 _ rfl;have b5:w7.cell? ⟨F.g,5,none⟩=some (.int .i64 (s2.fault.code:Nat)):=ha.out.sv.se.cell 5 _ rfl;have b6:w7.cell? ⟨F.g,6,none⟩=some (.int .i64 s2.fault.kind):=ha.out.sv.se.cell 6 _ rfl;have b7:w7.cell? ⟨F.g,7,none⟩=some (.string ⟨s2.fault.place.toArray⟩):=ha.out.sv.se.cell 7 _ rfl;have b8:w7.cell? ⟨F.g,8,none⟩=some (.int .i64 (s2.fault.pos:Nat)):=ha.out.sv.se.cell 8 _ rfl;have x0:w7.cell? ⟨R,0,none⟩=some (.int .i64 0):=qaa ha.out.res 0 _ rfl;have x1:w7.cell? ⟨R,1,none⟩=some (.int .i64 0):=qaa ha.out.res 1 _ rfl;have x2:w7.cell? ⟨R,2,none⟩=some (.string ⟨#[]⟩):=qaa ha.out.res 2 _ rfl;have x3:w7.cell? ⟨R,3,none⟩=some (.int .i64 0):=qaa ha.out.res 3 _ rfl;have z0:w7.frozen? ⟨R,0,none⟩=false:=by simp[World.frozen?,ha.out.res]
     have z1:w7.frozen? ⟨R,1,none⟩=false:=by simp[World.frozen?,ha.out.res]
     have z2:w7.frozen? ⟨R,2,none⟩=false:=by simp[World.frozen?,ha.out.res]
     have z3:w7.frozen? ⟨R,3,none⟩=false:=by simp[World.frozen?,ha.out.res]
     clear h0;go_wp2_with fail
     have hf:=ha.out.set (.int .i64 0) (.int .i64 0) (.string ⟨#[]⟩) (.int .i64 0);refine qe0 Tryz.results45 rfl R vv' _ rfl rfl hf.1 _ Tryz.underlying31 rfl (by kernel_rfl) ?_;exact⟨⟨_,by rw[HX.out];rfl,fun _=>⟨F,_,s2,hf.2.2.1,by rw[HX.out]⟩⟩,hf.2.1,hf.2.2.2⟩
theorem qly{P:Program}(w:World){ops:Array Oper}{rest:List Oper}{o:Oper}{a:Act}{Q:Exit->Act->World->Prop}
  (hg:o.guard=none) (s x:Operand) (t:TypeId) (ho:o.op=.call { callee:=.builtin .append,args:=#[s,x],argTypes:=#[t,t] }) (sv xv v':Value) (w':World) (hs:a.eval s=sv) (hx:a.eval x=xv)
  (ha:(Builtin.append_ #[t,t] o.type #[sv,xv]).run P w=.ok v' w') (hK:wpList P ops Q rest (a.put o.dst v') w'):wpList P ops Q (o::rest) a w:=by
 refine wpList_plain hg fun K Ha=>?_;unfold Oper.wp execOp;simp only[ho,resolve,invoke,builtin,Sem.run_bind,Sem.run_pure,Result.andThen_ok,List.map_toArray,List.map_cons,List.map_nil,hs,hx,ha];exact Ha _ _ hK
theorem qm6:(Tryz.prog.info? 38).map (fun i=>(i.zero,i.size,i.bytes))=some (some (.agg #[.string ⟨#[]⟩,.string ⟨#[]⟩]),2,32):=by kernel_rfl
theorem qxo:(Tryz.prog.info? 173).map (fun i=>(i.zero,i.size,i.bytes))=some (some (.agg #[.string ⟨#[]⟩,.slice none 0 0]),2,40):=by kernel_rfl
def qdn(L:List (ByteArray×ByteArray)):List Value:=L.flatMap fun x=>[.string x.1,.string x.2]
theorem qbd(L:List (ByteArray×ByteArray)):(qdn L).length=L.length*2:=by
 induction L with
 |nil=>rfl
 |cons x L ih=>show(qdn L).length+2=_;rw[ih,List.length_cons];omega
theorem qe5:∀(L:List (ByteArray×ByteArray)) (k:Nat) (x:ByteArray×ByteArray),L[k]?=some x->(qdn L)[k*2]?=some (.string x.1)/\(qdn L)[k*2+1]?=some (.string x.2)
 |[],k,x,h=>by simp at h
 |y::L,0,x,h=>by simp at h;subst h;exact⟨rfl,rfl⟩
 |y::L,k+1,x,h=>by
   have:=qe5 L k x (by simpa using h);rw[show(k+1)*2=k*2+1+1 by omega,show k*2+1+1+1=(k*2+1)+1+1 by omega];exact this
theorem q0x{w:World}{b:Nat}{L:List (ByteArray×ByteArray)}(h:PsAt w b L):∀j v,(qdn L)[j]?=some v->w.cell? ⟨b,j,none⟩=some v:=by
 intro j v hj;have hl:=(List.getElem?_eq_some_iff.1 hj).1;rw[qbd]at hl;obtain⟨x,hx⟩:∃x,L[j / 2]?=some x:=⟨L[j / 2]'(by omega),List.getElem?_eq_getElem (by omega)⟩;obtain⟨h1,h2⟩:=qe5 L (j / 2) x hx;rcases(show j=j / 2*2\/j=j / 2*2+1 by omega)with e|e
 ·rw[e]at hj |-
  rw[h1]at hj;obtain rfl:=Option.some.inj hj;exact h.name _ x hx
 ·rw[e]at hj |-
  rw[h2]at hj;obtain rfl:=Option.some.inj hj;exact h.text _ x hx
theorem all_append(T:ByteArray)(v:Value)(L:List (ByteArray×ByteArray))(w w1:World)(b1:Nat)(hA:qpx w v L)(hL:L.length<=6)(hb:Below w.heap.size w w1)(h0:w1.cell? ⟨b1,0,none⟩=some (.string ⟨#[]⟩))(h1:w1.cell? ⟨b1,1,none⟩=some (.string T)) :
  ∃b cap w',(∀ty,(Builtin.append_ #[22,22] ty #[.slice (some ⟨b1,0,none⟩) 1 1,v]).run Tryz.prog w1=.ok (.slice (some ⟨b,0,none⟩) (L.length+1) cap) w')/\PsAt w' b ((⟨#[]⟩,T)::L)/\Below w1.heap.size w1 w':=by
 obtain⟨i0,Hb,He,he,hf⟩:=info_parts qm6;obtain⟨ao,cap,rfl,hi,Hi,Hf⟩:=hA;by_cases hn:L=[]
 ·subst hn
  refine⟨b1,1,w1,fun ty=>?_,⟨fun k x hx=>?_,fun k x hx=>?_⟩,Below.refl _ _⟩
  ·cases ao with
   |none=>simp[Builtin.append_,run_underlying Tryz.underlying22,sizeOf,typeInfo,Hb,Builtin.lenOf,Builtin.firstCells,storeCells]
   |some a=>simp[Builtin.append_,run_underlying Tryz.underlying22,sizeOf,typeInfo,Hb,Builtin.lenOf,Builtin.firstCells,storeCells,loadCells,loadCellsFrom]
  ·cases k with
   |zero=>simp at hx;subst hx;exact h0
   |succ k=>simp at hx
  ·cases k with
   |zero=>simp at hx;subst hx;exact h1
   |succ k=>simp at hx
 ·obtain⟨b,rfl,Ha⟩:=Hf hn
  have Hg:0<L.length:=List.length_pos_iff.2 hn;have hc:PsAt w1 b L:=⟨fun k x hx=>(hb.cell (p:=⟨b,k*2,none⟩) (World.block_lt_of_cell? _ _ (Ha.name k x hx))).trans (Ha.name k x hx),fun k x hx=>(hb.cell (p:=⟨b,k*2+1,none⟩) (World.block_lt_of_cell? _ _ (Ha.text k x hx))).trans (Ha.text k x hx)⟩;have hg:=fun ty=>run_append_grow (P:=Tryz.prog) w1 22 ty 38 i0 _ Tryz.underlying22 Hb He ⟨b1,0,none⟩ 1 1 [.string ⟨#[]⟩,.string T] (by rw[he];rfl) (fun j v hj=>by
    match j,hj with
    |0,hj=>simp at hj;subst hj;simpa [Addr.add]using h0
    |1,hj=>simp at hj;subst hj;simpa [Addr.add]using h1) ⟨b,0,none⟩ L.length cap (qdn L) (by rw[he];exact qbd L) (fun j v hj=>by have:=q0x hc j v hj;have Hc:(⟨b,0,none⟩:Addr).add j=⟨b,j,none⟩:=(by unfold Addr.add;split<;>simp_all);rw[Hc];exact this) (by omega) (by omega) (by
      rw[hf];have:Builtin.nextslicecap (1+L.length) 1<=7:=by
       rcases(show L.length=1\/L.length=2\/L.length=3\/L.length=4\/L.length=5\/L.length=6 by omega)with e|e|e|e|e|e<;>rw[e]<;>decide
      omega)
  refine⟨w1.heap.size,_,_,fun ty=>by rw[Nat.add_comm L.length 1];exact hg ty,?_,?_⟩
  ·have ha:∀j v,(qdn ((⟨#[]⟩,T)::L))[j]?=some v->(w1.drew.alloc (.cells ([Value.string ⟨#[]⟩,.string T].toArray++(qdn L).toArray++Builtin.zeroCells (Value.agg #[.string ⟨#[]⟩,.string ⟨#[]⟩]).cells (grownCap w1 (1+L.length) 1 38 - (1+L.length))) 38)).cell? ⟨w1.heap.size,j,none⟩=some v:=fun j v hj=>by
    refine qaa (heap_alloc_new w1.drew _) j v ?_;rw[Array.toList_append,Array.toList_append];rw[List.getElem?_append_left (by have:=(List.getElem?_eq_some_iff.1 hj).1;simpa [qdn]using this)];exact hj
   refine⟨fun k x hx=>ha _ _ (qe5 _ k x hx).1,fun k x hx=>ha _ _ (qe5 _ k x hx).2⟩
  ·exact(Below.refl _ _).drew.alloc (Nat.le_refl _) _
theorem qwx(n:Nat)(hn:n<=7)(w:World):(Instr.makeSlice 115 (.int .i64 (n:Int)) (.int .i64 (n:Int))).run Tryz.prog w=.ok (.slice (some ⟨w.heap.size,0,none⟩) n n) (w.alloc (.cells (madeCells #[.string ⟨#[]⟩,.slice none 0 0] (n*2)) 173)):=by
 obtain⟨i0,ha,Ha,hb,Hb⟩:=info_parts qxo;have hr:=run_make (P:=Tryz.prog) w 115 173 i0 _ Tryz.underlying115 ha Ha .i64 .i64 n n (by omega) (Int.le_refl _) (by rw[Hb];omega) (by omega);have e:(Value.agg #[.string ⟨#[]⟩,.slice none 0 0]).cells=#[.string ⟨#[]⟩,.slice none 0 0]:=rfl;rw[hb,e]at hr;simpa using hr
namespace Pl
theorem qkw:∀(Z:List (List UInt8×List UInt8)),(∀(i:Nat) z,Z[i]?=some z->(qam z.2).1.1=0)->qa4 Z=(Ft.none,Z.map fun z=>⟨z.1,(qam z.2).2⟩)
 |[],_=>rfl
 |(n,t)::l,h=>by
   have h0:(qam t).1.1=0:=h 0 (n,t) rfl;have ih:=qkw l (fun i z hz=>h (i+1) z (by simpa using hz));unfold qa4;rw[if_neg (fun q=>q h0),ih,if_neg (by simp[Ft.none])];rfl
theorem qmk:∀(Z:List (List UInt8×List UInt8)) (k:Nat) (z:List UInt8×List UInt8),(∀(i:Nat) y,i<k->Z[i]?=some y->(qam y.2).1.1=0)->Z[k]?=some z->(qam z.2).1.1≠0->qa4 Z=(⟨2,(qam z.2).1.1,z.1,(qam z.2).1.2⟩,[])
 |[],k,z,_,h,_=>by simp at h
 |(n,t)::l,0,z,_,h,hz=>by
   simp at h;subst h;exact qnc hz
 |(n,t)::l,k+1,z,hk,h,hz=>by
   have h0:(qam t).1.1=0:=hk 0 (n,t) (by omega) rfl;have ih:=qmk l k z (fun i y hi hy=>hk (i+1) y (by omega) (by simpa using hy)) (by simpa using h) hz;unfold qa4;rw[if_neg (fun q=>q h0),ih,if_pos (by simp)]
end Pl
variable{L LL:List (ByteArray×ByteArray)}{k b g R:Nat}{w wr:World}{f:Nat->Value}
theorem q58{x:ByteArray×ByteArray}(h:L[k]?=some x):(qaq L)[k]?=some (x.1.data.toList,x.2.data.toList):=by
 unfold qaq;rw[List.getElem?_map,h];rfl
theorem q57{z:List UInt8×List UInt8}(h:(qaq L)[k]?=some z):∃x,L[k]?=some x/\z=(x.1.data.toList,x.2.data.toList):=by
 unfold qaq at h;rw[List.getElem?_map]at h;obtain⟨x,h1,h2⟩:=Option.map_eq_some_iff.1 h;exact⟨x,h1,h2.symm⟩
structure CAi(w wr:World)(b g R:Nat)(LL:List (ByteArray×ByteArray))(f:Nat->Value)(k:Nat):Prop where
 ps:PsAt wr b LL
 blk:wr.rowIs g 173 (LL.length*2) f
 name:∀(i:Nat) x,i<k->LL[i]?=some x->f (i*2)=.string x.1
 row:∀(i:Nat) x,i<k->LL[i]?=some x->wr.ownsRow w.heap.size 229 4 (f (i*2+1)) (Pl.qam x.2.data.toList).2.length (qb0 (Pl.qam x.2.data.toList).2)
 res:wr.heap[R]?=some (.cells #[.int .i64 0,.int .i64 0,.string ⟨#[]⟩,.int .i64 0] 31 (0,0))
 below:Below w.heap.size w wr
 le:w.heap.size<=R/\w.heap.size<=g
 ne:b≠g
theorem CAi.next{w':World}(h:CAi w wr b g R LL f k)(hb:Below wr.heap.size wr w'):CAi w w' b g R LL f k:=
 ⟨⟨fun k x hx=>(hb.cell (p:=⟨b,k*2,none⟩) (World.block_lt_of_cell? _ _ (h.ps.name k x hx))).trans (h.ps.name k x hx),fun k x hx=>(hb.cell (p:=⟨b,k*2+1,none⟩) (World.block_lt_of_cell? _ _ (h.ps.text k x hx))).trans (h.ps.text k x hx)⟩,
  h.blk.of_block (hb.block _ h.blk.lt),h.name,fun i x hi hx=>qac (h.row i x hi hx) (fun q hq=>hb.block q ((h.row i x hi hx).lt q hq).2),(hb.block _ (lta h.res)).trans h.res,h.below.trans (hb.mono h.below.size),h.le,h.ne⟩
theorem qpy:(173:TypeId)≠229:=by decide
theorem CAi.put(h:CAi w wr b g R LL f k){x:ByteArray×ByteArray}(hx:LL[k]?=some x){v:Value}(hv:wr.ownsRow w.heap.size 229 4 v (Pl.qam x.2.data.toList).2.length (qb0 (Pl.qam x.2.data.toList).2)) :
  ∃f',CAi w ((wr.setCell ⟨g,k*2,none⟩ (.string x.1)).setCell ⟨g,k*2+1,none⟩ v) b g R LL f' (k+1):=by
 have ha:∀q,q≠g->((wr.setCell ⟨g,k*2,none⟩ (.string x.1)).setCell ⟨g,k*2+1,none⟩ v).heap[q]?=wr.heap[q]?:=fun q hq=>(Below.heap_setCell _ _ _ _ hq).trans (Below.heap_setCell _ _ _ _ hq);have Ha:∀ {u:Value} {n:Nat} {xs:List Value},wr.ownsRow w.heap.size 229 4 u n xs->((wr.setCell ⟨g,k*2,none⟩ (.string x.1)).setCell ⟨g,k*2+1,none⟩ v).ownsRow w.heap.size 229 4 u n xs:=fun hu=>qac hu fun q hq=>by
  obtain⟨cur,hc⟩:=qad hu q hq;obtain⟨c,hb,_,_⟩:=h.blk;exact ha q (qae hc hb qpy.symm)
 have Hb:R≠g:=by
  obtain⟨c,hb,_,_⟩:=h.blk;exact qae h.res hb qdm
 have Hc:=(h.blk.set (k*2) (.string x.1)).set (k*2+1) v;refine⟨_,⟨fun i y hy=>(World.cell?_of_block (w:=wr) (ha b h.ne)).trans (h.ps.name i y hy),fun i y hy=>(World.cell?_of_block (w:=wr) (ha b h.ne)).trans (h.ps.text i y hy)⟩,Hc,fun i y hi hy=>?_,fun i y hi hy=>?_,(ha R Hb).trans h.res,(h.below.setCell (p:=⟨g,k*2,none⟩) h.le.2 _).setCell (p:=⟨g,k*2+1,none⟩) h.le.2 _,h.le,h.ne⟩
 ·show (if i*2=k*2+1 then v else if i*2=k*2 then .string x.1 else f (i*2))=_
  rw[if_neg (by omega)];by_cases e:i=k
  ·subst e
   rw[if_pos rfl];rw[hx]at hy;obtain rfl:=Option.some.inj hy;rfl
  ·rw[if_neg (by omega)]
   exact h.name i y (by omega) hy
 ·show World.ownsRow _ _ _ _ (if i*2+1=k*2+1 then v else if i*2+1=k*2 then .string x.1 else f (i*2+1)) _ _
  by_cases e:i=k
  ·subst e
   rw[if_pos rfl];rw[hx]at hy;obtain rfl:=Option.some.inj hy;exact Ha hv
  ·rw[if_neg (by omega),if_neg (by omega)]
   exact Ha (h.row i y (by omega) hy)
theorem CAi.sources(h:CAi w wr b g R LL f LL.length):SrcAt wr w.heap.size ⟨0,g,0,0,0,fun i=>f (i*2+1)⟩ ((qaq LL).map fun z=>⟨z.1,(Pl.qam z.2).2⟩):=by
 have hx:∀(i:Nat) (s:Pl.Src),((qaq LL).map fun z=>(⟨z.1,(Pl.qam z.2).2⟩:Pl.Src))[i]?=some s->∃x,LL[i]?=some x/\s=⟨x.1.data.toList,(Pl.qam x.2.data.toList).2⟩/\i<LL.length:=fun i s hs=>by
  rw[List.getElem?_map]at hs;obtain⟨z,h1,h2⟩:=Option.map_eq_some_iff.1 hs;obtain⟨x,h3,h4⟩:=q57 h1;exact⟨x,h3,by rw[<-h2,h4],(List.getElem?_eq_some_iff.1 h3).1⟩
 obtain⟨c,hb,hc,_⟩:=h.blk;refine⟨⟨c,_,hb⟩,fun i s hs=>?_,fun i s hs=>?_,fun i s hs=>?_⟩
 ·obtain⟨x,h1,rfl,h3⟩:=hx i s hs
  show wr.cell? ⟨g,i*2,none⟩=_;rw[h.blk.cell (by omega),h.name i x h3 h1];rfl
 ·obtain⟨x,h1,rfl,h3⟩:=hx i s hs
  exact h.blk.cell (by omega)
 ·obtain⟨x,h1,rfl,h3⟩:=hx i s hs
  exact h.row i x h3 h1
end Go.Proofs.YtfkhljmiehdgmaaGreatDoor
