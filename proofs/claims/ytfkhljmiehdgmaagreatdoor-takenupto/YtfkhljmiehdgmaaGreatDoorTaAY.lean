/-
  Steps of the proof (texts laid together, blanks left out): PnM, PnNa, PnQ, PnH, PnI, PnJ.
-/
import Derived.Test.YtfkhljmiehdgmaaGreatDoorTaAX
import Derived.Deep.DeepCutAuto
import Derived.Deep.RegionLaw
import Derived.Test.YtfkhljmiehdgmaaGreatDoorTaAR
import Derived.Test.YtfkhljmiehdgmaaGreatDoorTaAV
import Derived.Deep.RegionWith
import Derived.Test.YtfkhljmiehdgmaaGreatDoorTaAW
import Derived.Test.YtfkhljmiehdgmaaGreatDoorTaAU
namespace Go.Proofs.YtfkhljmiehdgmaaGreatDoor
open Go.RowKit Go.Maps
def qk3 (l:List (Pl.En×Nat)):List (Value×Value):=l.map fun p=>(qfh p.1,.int .i64 (p.2:Nat))
def qea (l:List Int):List Value:=l.map fun z=>.int .i64 z
def qhj (F:Fix) (i g n:Nat):List Value:=[F.pv i,.slice (some ⟨g,0,none⟩) n n]
def qc5 (F:Fix):List Nat→List (Nat×List Int)→List Value
 | g::M,v::l=>qhj F v.1 g v.2.length++qc5 F M l
 | _,_=>[]
theorem qlb (F:Fix) (g:Nat) (v:Nat×List Int):∀(M:List Nat) (l:List (Nat×List Int)),M.length=l.length→qc5 F (M++[g]) (l++[v])=qc5 F M l++qhj F v.1 g v.2.length
 | [],[],_=>by simp[qc5]
 | h::M,u::l,e=>by
   show qhj F u.1 h u.2.length++qc5 F (M++[g]) (l++[v])=_
   rw[qlb F g v M l (by simpa using e)]
   simp[qc5]
 | [],v::l,h=>by simp at h
 | g::M,[],h=>by simp at h
theorem qlc (F:Fix) (f:List Int→List Int) (hf:∀ l,(f l).length=l.length):∀(M:List Nat) (l:List (Nat×List Int)) (k:Nat),qc5 F M (l.modify k fun x=>(x.1,f x.2))=qc5 F M l
 | [],l,k=>by simp[qc5]
 | g::M,[],k=>by simp[qc5]
 | g::M,v::l,0=>by simp[qc5,hf]
 | g::M,v::l,k+1=>by
   show qc5 F (g::M) (v::l.modify k _)=_
   show qhj F v.1 g v.2.length++qc5 F M (l.modify k _)=_
   rw[qlc F f hf M l k]
   rfl
structure SvAt (w:World) (B:Nat) (F:Fix) (S:List Pl.Src) (vv:Value) (M:List Nat) (s:Pl.Sr):Prop where
 se:SeAt w B F S vv s
 nums:qep w F.bn (qk3 s.nums)
 row:w.ownsRow B 205 2 vv s.vis.length (qc5 F M s.vis)
 len:M.length=s.vis.length
 marks:∀(i g:Nat) (v:Nat×List Int),M[i]?=some g→s.vis[i]?=some v→w.heap[g]?=some (.cells (qea v.2).toArray 3 (0,0))∧B≤g
 one:M.Nodup
 apart:F.bn≠F.be∧F.bn≠F.bp∧B≤F.bn
structure Cuv (B:Nat) (F:Fix) (w w':World):Prop where
 below:Below B w w'
 keep:∀ k cs t fz,w.heap[k]?=some (.cells cs t fz)→k≠F.g→t≠205→t≠3→w'.heap[k]?=w.heap[k]?
theorem Cuv.refl (B:Nat) (F:Fix) (w:World):Cuv B F w w:=⟨Below.refl _ _,fun _ _ _ _ _ _ _ _=>rfl⟩
theorem Cuv.trans {B:Nat} {F:Fix} {a b c:World} (h:Cuv B F a b) (k:Cuv B F b c):Cuv B F a c:=
 ⟨h.below.trans k.below,fun i cs t fz hi h1 h2 h3=>(k.keep i cs t fz ((h.keep i cs t fz hi h1 h2 h3).trans hi) h1 h2 h3).trans (h.keep i cs t fz hi h1 h2 h3)⟩
theorem Cuv.of_below {B:Nat} {F:Fix} {w w':World} (h:Below w.heap.size w w') (hB:B≤w.heap.size):Cuv B F w w':=
 ⟨h.mono hB,fun k _ _ _ hk _ _ _=>h.block k (Array.getElem?_eq_some_iff.1 hk).1⟩
theorem Cuv.of_cue {w w':World} {B:Nat} {F:Fix} {S:List Pl.Src} {vv:Value} {s:Pl.Sr} (h:SeAt w B F S vv s) (hc:Cue B F w w'):Cuv B F w w':=
 ⟨hc.below,fun k _ _ _ hk h1 _ _=>hc.keep k (Array.getElem?_eq_some_iff.1 hk).1 h1 (qai hk h.ends)⟩
theorem qdi:(205:TypeId)≠178:=by decide
theorem qmn:(205:TypeId)≠173:=by decide
theorem qqd:(205:TypeId)≠229:=by decide
theorem qib:(205:TypeId)≠3:=by decide
theorem qfr:(3:TypeId)≠178:=by decide
theorem qqf:(3:TypeId)≠173:=by decide
theorem qut:(3:TypeId)≠229:=by decide
theorem SvAt.kept {w w':World} {B:Nat} {F:Fix} {S:List Pl.Src} {vv:Value} {M:List Nat} {s:Pl.Sr} (h:SvAt w B F S vv M s) (hs:SeAt w' B F S vv s) (hk:∀ k,k<w.heap.size→(∀ cs t fz,w.heap[k]?=some (.cells cs t fz)→t=205∨t=3)→k≠F.be→w'.heap[k]?=w.heap[k]?):SvAt w' B F S vv M s:=by
 refine⟨hs,?_,?_,h.len,?_,h.one,h.apart⟩
 ·obtain⟨es,c,hb,hl⟩:=h.nums
  exact⟨es,c,(hk _ h.nums.lt (fun cs t fz e=>by rw[hb]at e; cases e) h.apart.1).trans hb,hl⟩
 ·refine qah h.row fun k hv=>?_
  obtain⟨cur,hc⟩:=qae h.row k hv
  exact hk k (Array.getElem?_eq_some_iff.1 hc).1 (fun cs t fz e=>by rw[hc]at e; injection e with e; injection e with _ e _; exact .inl e.symm) (qai hc h.se.ends)
 ·intro i g v hi hv
  obtain⟨h1,h2⟩:=h.marks i g v hi hv
  exact⟨(hk g (Array.getElem?_eq_some_iff.1 h1).1 (fun cs t fz e=>by rw[h1]at e; injection e with e; injection e with _ e _; exact .inr e.symm) (qai h1 h.se.ends)).trans h1,h2⟩
theorem SvAt.below {w w':World} {B:Nat} {F:Fix} {S:List Pl.Src} {vv:Value} {M:List Nat} {s:Pl.Sr} (h:SvAt w B F S vv M s) (hb:Below w.heap.size w w'):SvAt w' B F S vv M s:=h.kept (h.se.below hb) fun k hk _ _=>hb.block k hk
theorem SvAt.alloc {w:World} {B:Nat} {F:Fix} {S:List Pl.Src} {vv:Value} {M:List Nat} {s:Pl.Sr} (h:SvAt w B F S vv M s) (o:Obj):SvAt (w.alloc o) B F S vv M s:=h.below ((Below.refl _ _).alloc (Nat.le_refl _) o)
theorem SvAt.drew {w:World} {B:Nat} {F:Fix} {S:List Pl.Src} {vv:Value} {M:List Nat} {s:Pl.Sr} (h:SvAt w B F S vv M s):SvAt w.drew B F S vv M s:=h.below (Below.refl _ _).drew
theorem SvAt.turn {w w':World} {B:Nat} {F:Fix} {S:List Pl.Src} {vv:Value} {M:List Nat} {s s':Pl.Sr} (h:SvAt w B F S vv M s) (hs:SeAt w' B F S vv s') (hc:Cue B F w w') (hn:s'.nums=s.nums) (hv:s'.vis=s.vis):SvAt w' B F S vv M s':=by
 have hk:∀ k,k<w.heap.size→(∀ cs t fz,w.heap[k]?=some (.cells cs t fz)→t=205∨t=3)→k≠F.be→w'.heap[k]?=w.heap[k]?:=fun k hk ht hne=>hc.keep k hk (fun e=>by
  subst e
  rcases ht _ _ _ h.se.blk with q | q
  ·exact qdi q.symm
  ·exact qfr q.symm) hne
 refine⟨hs,?_,?_,by rw[hv]; exact h.len,?_,h.one,h.apart⟩
 ·obtain⟨es,c,hb,hl⟩:=h.nums
  rw[hn]
  exact⟨es,c,(hk _ h.nums.lt (fun cs t fz e=>by rw[hb]at e; cases e) h.apart.1).trans hb,hl⟩
 ·rw[hv]
  refine qah h.row fun k hv=>?_
  obtain⟨cur,hc⟩:=qae h.row k hv
  exact hk k (Array.getElem?_eq_some_iff.1 hc).1 (fun cs t fz e=>by rw[hc]at e; injection e with e; injection e with _ e _; exact .inl e.symm) (qai hc h.se.ends)
 ·rw[hv]
  intro i g v hi hv
  obtain⟨h1,h2⟩:=h.marks i g v hi hv
  exact⟨(hk g (Array.getElem?_eq_some_iff.1 h1).1 (fun cs t fz e=>by rw[h1]at e; injection e with e; injection e with _ e _; exact .inr e.symm) (qai h1 h.se.ends)).trans h1,h2⟩
theorem SvAt.far {w w':World} {B:Nat} {F:Fix} {S:List Pl.Src} {vv:Value} {M:List Nat} {s:Pl.Sr} (h:SvAt w B F S vv M s) {G:Nat} {x:Pl.Sx} (hG:StIn w G x) (hk:∀ k,k≠G→w'.heap[k]?=w.heap[k]?):SvAt w' B F S vv M s:=
 h.kept (h.se.far hG hk) fun k _ ht _=>hk k (fun e=>by
  subst e
  rcases ht _ _ _ hG with q | q
  ·exact absurd q (by decide)
  ·exact absurd q (by decide))
theorem SvAt.mark {w:World} {B:Nat} {F:Fix} {S:List Pl.Src} {vv:Value} {M:List Nat} {s:Pl.Sr} (h:SvAt w B F S vv M s) {v g:Nat} (hg:M[v]?=some g) (a:Nat) (m:Int):SvAt (w.setCell ⟨g,a,none⟩ (.int .i64 m)) B F S vv M (s.mark v a m)∧Cuv B F w (w.setCell ⟨g,a,none⟩ (.int .i64 m)):=by
 have hset:∀ k,k≠g→(w.setCell ⟨g,a,none⟩ (.int .i64 m)).heap[k]?=w.heap[k]?:=fun k hk=>Below.heap_setCell _ _ _ _ hk
 have hvl:v<s.vis.length:=by rw[← h.len]; exact(List.getElem?_eq_some_iff.1 hg).1
 obtain⟨u,hu⟩:∃ u,s.vis[v]?=some u:=⟨_,List.getElem?_eq_getElem hvl⟩
 obtain⟨hb,hB⟩:=h.marks v g u hg hu
 have hsame:=heap_setCell_same w g a _ _ (.int .i64 m) hb
 have hnum:F.bn≠g:=fun e=>by
  obtain⟨es,c,hb',_⟩:=h.nums
  rw[e,hb]at hb'; cases hb'
 have hse:SeAt (w.setCell ⟨g,a,none⟩ (.int .i64 m)) B F S vv (s.mark v a m):=by
  obtain⟨cs',fz',hc⟩:=h.se.src.blk
  refine⟨(hset _ (qaf h.se.blk hb qfr.symm)).trans h.se.blk,h.se.src.kept (hset _ (qaf hc hb qqf.symm)) (fun i s' q hs hv=>?_),h.se.places.heap (hset _ (qai hb h.se.places).symm),h.se.ends.heap (hset _ (qai hb h.se.ends).symm),h.se.le,h.se.apart⟩
  obtain⟨cur,hc'⟩:=qae (h.se.src.row i s' hs) q hv
  exact hset q (qaf hc' hb qut.symm)
 have hvl2:(s.mark v a m).vis.length=s.vis.length:=by unfold Pl.Sr.mark; simp
 refine⟨⟨hse,h.nums.heap (hset _ hnum),?_,by rw[hvl2]; exact h.len,?_,h.one,h.apart⟩,⟨(Below.refl _ _).setCell (p:=⟨g,a,none⟩) hB _,fun k cs t fz hk _ _ h3=>hset k (fun e=>by subst e; rw[hb]at hk; injection hk with hk; injection hk with _ hk _; exact h3 hk.symm)⟩⟩
 ·rw[hvl2]
  have e:qc5 F M (s.mark v a m).vis=qc5 F M s.vis:=qlc F (fun l=>l.set a m) (by simp) M s.vis v
  rw[e]
  refine qah h.row fun k hk=>hset k ?_
  obtain⟨cur,hc⟩:=qae h.row k hk
  exact qaf hc hb qib
 ·intro i g' v' hi hv'
  have hv':(s.vis.modify v fun x=>(x.1,x.2.set a m))[i]?=some v':=hv'
  rw[List.getElem?_modify]at hv'
  by_cases hiv:v=i
  ·subst hiv
   rw[hg]at hi
   obtain rfl:=Option.some.inj hi
   rw[hu]at hv'
   simp only[if_true,Option.map_eq_map,Option.map_some,Option.some.injEq]at hv'
   subst hv'
   refine⟨?_,hB⟩
   rw[hsame]
   simp[qea,List.map_set]
  ·obtain⟨v0,e1,e2⟩:∃ v0,s.vis[i]?=some v0∧v0=v':=by
    cases hq:s.vis[i]? with
    | none=>rw[hq]at hv'; cases hv'
    | some v0=>rw[hq]at hv'; simp[hiv]at hv'; exact⟨v0,rfl,hv'⟩
   subst e2
   obtain⟨h1,h2⟩:=h.marks i g' v0 hi e1
   refine⟨(hset g' (fun e=>?_)).trans h1,h2⟩
   subst e
   have hlt1:=(List.getElem?_eq_some_iff.1 hi).1
   exact hiv ((List.getElem?_inj (List.getElem?_eq_some_iff.1 hg).1 h.one).1 (hg.trans hi.symm))
structure NumsOk (n:Nat) (l:List (Pl.En×Nat)):Prop where
 key:∀ p∈l,Pl.SxFit p.1.2∧p.1.1<n
 one:Pl.qj4 l
theorem qqt {l:List (Pl.En×Nat)} {i:Nat} {p:Value×Value} (h:(qk3 l)[i]?=some p):∃ q,l[i]?=some q∧p=(qfh q.1,.int .i64 (q.2:Nat)):=by
 unfold qk3 at h
 rw[List.getElem?_map]at h
 obtain⟨q,h1,h2⟩:=Option.map_eq_some_iff.1 h
 exact⟨q,h1,h2.symm⟩
theorem qkh {n:Nat} {l:List (Pl.En×Nat)} (h:NumsOk n l) (hn:n≤7):KeysOk Tryz.prog 180 (qk3 l):=by
 refine⟨fun p hp=>?_,fun i j p q hi hj hpq=>?_⟩
 ·obtain⟨i,hi⟩:=List.getElem?_of_mem hp
  obtain⟨r,h1,rfl⟩:=qqt hi
  have:=h.key r (List.mem_of_getElem? h1)
  exact qpw this.1.ok this.1.far (by omega)
 ·obtain⟨a,h1,rfl⟩:=qqt hi
  obtain⟨b,h2,rfl⟩:=qqt hj
  exact h.one i j a b h1 h2 (qio hpq)
theorem qsw {l:List (Pl.En×Nat)} {e:Pl.En} (h:Pl.qa7 l e=none):∀ p∈qk3 l,p.1≠qfh e:=by
 intro p hp
 unfold qk3 at hp
 obtain⟨q,h1,rfl⟩:=List.mem_map.1 hp
 exact fun x=>Pl.qjx h q h1 (qio x)
theorem qnk {w:World} {bn:Nat} {n:Nat} {l:List (Pl.En×Nat)} (h:qep w bn (qk3 l)) (ho:NumsOk n l) (hn:n≤7) (e:Pl.En) (he:Pl.SxFit e.2) (hi:e.1≤6) :
  (Instr.lookup 176 (.map (some bn)) (qfh e) false).run Tryz.prog w=.ok (.int .i64 ((Pl.qa7 l e).getD 0:Nat)) w:=by
 obtain⟨kl,hkl⟩:=qpw he.ok he.far hi
 cases hg:Pl.qa7 l e with
 | none=>exact qhr qdu Tryz.underlying176 (qw6 w) h (qkh ho hn) hkl (qsw hg) false
 | some x=>exact qg0 qdu Tryz.underlying176 h (qkh ho hn) hkl (List.mem_map.2 ⟨(e,x),Pl.qf3 hg,rfl⟩) false
theorem qyi {w:World} {bn:Nat} {n:Nat} {l:List (Pl.En×Nat)} (h:qep w bn (qk3 l)) (ho:NumsOk n l) (hn:n≤7) (e:Pl.En) (he:Pl.SxFit e.2) (hi:e.1≤6) (v:Nat) :
  ∃ w',(Instr.mapUpdate 176 (.map (some bn)) (qfh e) (.int .i64 v)).run Tryz.prog w=.ok () w'∧qep w' bn (qk3 (Pl.qbg l e v))∧w.grownBy w' (some bn)∧w'.heap.size=w.heap.size:=by
 obtain⟨kl,hkl⟩:=qpw he.ok he.far hi
 cases hg:Pl.qa7 l e with
 | none=>
   obtain⟨w',h1,h2,h3,h4⟩:=qhq (val:=.int .i64 v) qdu Tryz.underlying176 h (qkh ho hn) hkl (qsw hg)
   refine⟨w',h1,?_,h3,h4⟩
   rw[Pl.qem hg]
   unfold qk3 at h2 ⊢
   rw[List.map_append]
   exact h2
 | some y=>
   obtain⟨i,i1,i2⟩:=Pl.qha hg v
   obtain⟨w',h1,h2,h3,h4⟩:=qjd (val:=.int .i64 v) (v:=.int .i64 (y:Nat)) qdu Tryz.underlying176 h (qkh ho hn) hkl i (by unfold qk3; rw[List.getElem?_map,i1]; rfl)
   refine⟨w',h1,?_,h3,h4⟩
   rw[i2]
   unfold qk3 at h2 ⊢
   rw[List.map_set]
   exact h2
theorem qy4:(Tryz.prog.info? 205).map (fun i=>(i.zero,i.size,i.bytes))=some (some (.agg #[.slice none 0 0,.slice none 0 0]),2,48):=by kernel_rfl
theorem quq:(Value.agg #[.slice none 0 0,.slice none 0 0]).cells.size=2:=rfl
structure Vis1 (w wx:World) (B:Nat) (F:Fix) (S:List Pl.Src) (vv:Value) (M:List Nat) (s:Pl.Sr) (e:Pl.En) (n gV gM:Nat):Prop where
 sv:SvAt wx B F S vv M s
 ent:wx.heap[w.heap.size]?=some (.cells (qak e) 180 (0,0))
 vis:wx.heap[gV]?=some (.cells #[F.pv e.1,.slice (some ⟨gM,0,none⟩) n n] 205 (0,0))
 mks:wx.heap[gM]?=some (.cells (qea (List.replicate n 0)).toArray 3 (0,0))
 old:w.heap.size≤gV∧w.heap.size≤gM
 below:Below w.heap.size w wx
theorem qpl (n:Nat):madeCells #[Value.int .i64 0] n=(qea (List.replicate n 0)).toArray:=by
 apply Array.ext'
 rw[toList_madeCells_one]
 simp[qea]
theorem SeAt.mapOther {w w':World} {B:Nat} {F:Fix} {S:List Pl.Src} {vv:Value} {s:Pl.Sr} (h:SeAt w B F S vv s) {b:Nat} {L:List (Value×Value)} (hm:qep w b L) (h1:b≠F.be) (h2:b≠F.bp) (hg:w.grownBy w' (some b)):SeAt w' B F S vv s:=by
 have hk:∀ k,k<w.heap.size→k≠b→w'.heap[k]?=w.heap[k]?:=fun k hk hne=>hg.block k hk (fun e=>hne (Option.some.inj e))
 obtain⟨cs',fz',hc⟩:=h.src.blk
 refine⟨(hk _ (Array.getElem?_eq_some_iff.1 h.blk).1 (qai h.blk hm)).trans h.blk,h.src.kept (hk _ (Array.getElem?_eq_some_iff.1 hc).1 (qai hc hm)) (fun i s' q hs hv=>?_),h.places.heap (hk _ h.places.lt h2.symm),h.ends.heap (hk _ h.ends.lt h1.symm),h.le,h.apart⟩
 obtain⟨cur,hc'⟩:=qae (h.src.row i s' hs) q hv
 exact hk q (Array.getElem?_eq_some_iff.1 hc').1 (qai hc' hm)
theorem SvAt.numsPut {w w':World} {B:Nat} {F:Fix} {S:List Pl.Src} {vv:Value} {M:List Nat} {s:Pl.Sr} (h:SvAt w B F S vv M s) {l:List (Pl.En×Nat)} (hm:qep w' F.bn (qk3 l)) (hg:w.grownBy w' (some F.bn)):SvAt w' B F S vv M { s with nums:=l }∧Cuv B F w w':=by
 have hk:∀ k,k<w.heap.size→k≠F.bn→w'.heap[k]?=w.heap[k]?:=fun k hk hne=>hg.block k hk (fun e=>hne (Option.some.inj e))
 have hse:=h.se.mapOther h.nums h.apart.1 h.apart.2.1 hg
 refine⟨⟨⟨hse.blk,hse.src,hse.places,hse.ends,hse.le,hse.apart⟩,hm,?_,h.len,?_,h.one,h.apart⟩,⟨⟨hg.os,hg.tape,hg.output,hg.size,fun k hk=>hg.block k (by have:=h.nums.lt; have:=h.apart.2.2; omega) (fun x=>by have:=Option.some.inj x; have:=h.apart.2.2; omega)⟩,fun k cs t fz hk0 _ _ _=>hk k (Array.getElem?_eq_some_iff.1 hk0).1 (qai hk0 h.nums)⟩⟩
 ·refine qah h.row fun k hv=>?_
  obtain⟨cur,hc⟩:=qae h.row k hv
  exact hk k (Array.getElem?_eq_some_iff.1 hc).1 (qai hc h.nums)
 ·intro i g v hi hv
  obtain⟨h1,h2⟩:=h.marks i g v hi hv
  exact⟨(hk g (Array.getElem?_eq_some_iff.1 h1).1 (qai h1 h.nums)).trans h1,h2⟩
theorem SvAt.visit {w w0 w':World} {B:Nat} {F:Fix} {S:List Pl.Src} {vv vv':Value} {M:List Nat} {s:Pl.Sr} (h:SvAt w B F S vv M s) (hb0:Below w.heap.size w w0) {i g n:Nat} (hgM:w.heap[g]?=some (Obj.cells (qea (List.replicate n 0)).toArray 3 (0,0))) (hgB:B≤g) (hgn:g∉M) (hown:w'.ownsRow B 205 2 vv' (s.vis.length+1) (qc5 F M s.vis++qhj F i g n)) (hgr:w0.grownBy w' vv.ownBlock) :
  SvAt (w'.setCell ⟨F.g,4,none⟩ vv') B F S vv' (M++[g]) { s with vis:=s.vis++[(i,List.replicate n 0)] }∧Cuv B F w (w'.setCell ⟨F.g,4,none⟩ vv'):=by
 have hkeep:∀(k:Nat) (cs:Array Value) (t:TypeId) (fz:Nat×Nat),w.heap[k]?=some (.cells cs t fz)→t≠205→w'.heap[k]?=w.heap[k]?:=fun k cs t fz hk ht=>by
  have hlt:=(Array.getElem?_eq_some_iff.1 hk).1
  refine(hgr.block k (Nat.lt_of_lt_of_le hlt hb0.size) (fun e=>?_)).trans (hb0.block k hlt)
  obtain⟨cur,hc⟩:=qae h.row k e.symm
  exact qaf hk hc ht rfl
 have hkmap:∀ b L,qep w b L→w'.heap[b]?=w.heap[b]?:=fun b L hm=>by
  refine(hgr.block b (Nat.lt_of_lt_of_le hm.lt hb0.size) (fun e=>?_)).trans (hb0.block b hm.lt)
  obtain⟨cur,hc⟩:=qae h.row b e.symm
  exact qai hc hm rfl
 have hset:∀ k,k≠F.g→(w'.setCell ⟨F.g,4,none⟩ vv').heap[k]?=w'.heap[k]?:=fun k hk=>Below.heap_setCell _ _ _ _ hk
 have hg':=(hkeep _ _ _ _ h.se.blk qdi.symm).trans h.se.blk
 obtain⟨cs',fz',hc⟩:=h.se.src.blk
 refine⟨⟨⟨?_,?_,?_,?_,h.se.le,h.se.apart⟩,?_,?_,?_,?_,?_,h.apart⟩,⟨?_,?_⟩⟩
 ·rw[heap_setCell_same _ _ _ _ _ _ hg']
  simp[qjn]
 ·refine h.se.src.kept ((hset _ (qaf hc h.se.blk qh7.symm)).trans (hkeep _ _ _ _ hc qmn.symm)) fun i' s' q hs hv=>?_
  obtain⟨cur,hc'⟩:=qae (h.se.src.row i' s' hs) q hv
  exact(hset _ (qaf hc' h.se.blk qjb.symm)).trans (hkeep _ _ _ _ hc' qqd.symm)
 ·exact h.se.places.heap ((hset _ (qai h.se.blk h.se.places).symm).trans (hkmap _ _ h.se.places))
 ·exact h.se.ends.heap ((hset _ (qai h.se.blk h.se.ends).symm).trans (hkmap _ _ h.se.ends))
 ·exact h.nums.heap ((hset _ (qai h.se.blk h.nums).symm).trans (hkmap _ _ h.nums))
 ·show World.ownsRow _ _ _ _ _ (s.vis++[_]).length _
  rw[List.length_append,qlb F g _ M s.vis h.len,show (List.replicate n (0:Int)).length=n by simp]
  refine qah hown fun k hk=>hset k ?_
  obtain⟨cur,hc'⟩:=qae hown k hk
  exact qaf hc' hg' qdi
 ·simp[h.len]
 ·intro j g' v hj hv
  rw[List.getElem?_append]at hj
  have hv:(s.vis++[(i,List.replicate n 0)])[j]?=some v:=hv
  rw[List.getElem?_append,← h.len]at hv
  split at hj
  ·rename_i hjl
   rw[if_pos hjl]at hv
   obtain⟨h1,h2⟩:=h.marks j g' v hj hv
   exact⟨((hset g' (qaf h1 h.se.blk qfr)).trans (hkeep _ _ _ _ h1 qib.symm)).trans h1,h2⟩
  ·rename_i hjl
   rw[if_neg hjl]at hv
   have hj0:j - M.length=0:=by
    have:=(List.getElem?_eq_some_iff.1 hj).1
    simp at this; omega
   rw[hj0]at hj hv
   simp only[List.getElem?_cons_zero,Option.some.injEq]at hj hv
   subst hj hv
   exact⟨((hset _ (qaf hgM h.se.blk qfr)).trans (hkeep _ _ _ _ hgM qib.symm)).trans hgM,hgB⟩
 ·rw[List.nodup_append]
  exact⟨h.one,by simp,fun a ha b hb e=>by simp at hb; subst hb e; exact hgn ha⟩
 ·have h1:=h.se.le.1
  have h2:=(Array.getElem?_eq_some_iff.1 h.se.blk).1
  exact Below.trans (hb0.mono (by omega)) (Below.trans ⟨hgr.os,hgr.tape,hgr.output,hgr.size,fun k hk=>hgr.block k (by have:=hb0.size; omega) (fun e=>by have:=(h.row.lt k e.symm).1; omega)⟩ ((Below.refl _ _).setCell (p:=⟨F.g,4,none⟩) h.se.le.1 _))
 ·intro k cs t fz hk h1 h2 _
  exact(hset k h1).trans (hkeep k cs t fz hk h2)
theorem SvAt.ahead {w w0 w':World} {B:Nat} {F:Fix} {S:List Pl.Src} {vv:Value} {M:List Nat} {s:Pl.Sr} (h:SvAt w B F S vv M s) (hb0:Below w.heap.size w w0) (hgr:w0.grownBy w' vv.ownBlock):w'.cell? ⟨F.g,4,none⟩=some vv∧w'.frozen? ⟨F.g,4,none⟩=false:=by
 have hlt:=(Array.getElem?_eq_some_iff.1 h.se.blk).1
 have hb:w'.heap[F.g]?=some (.cells (qjn F S.length vv s.fault) 178 (0,0)):=by
  refine(hgr.block _ (Nat.lt_of_lt_of_le hlt hb0.size) (fun e=>?_)).trans ((hb0.block _ hlt).trans h.se.blk)
  obtain⟨cur,hc⟩:=qae h.row _ e.symm
  exact qaf h.se.blk hc qdi.symm rfl
 exact⟨qaa hb 4 _ rfl,by simp[World.frozen?,hb]⟩
end Go.Proofs.YtfkhljmiehdgmaaGreatDoor
namespace Go.Proofs.YtfkhljmiehdgmaaGreatDoor
open Go.RowKit
def ThrC (S:List Pl.Src) (k:Nat):Prop:=∀(w:World) (B:Nat) (F:Fix) (vv:Value) (M:List Nat) (s:Pl.Sr) (e:Pl.En),SvAt w B F S vv M s→Pl.Pre S s e→258≤s.nums.length+k→TabB B w →
    Calls Tryz.prog 75 #[.pointer (some ⟨F.g,0,none⟩),qfh e] w fun ed w'=>(∃ r,ed=.returned r)∧(∃ vv' ext,SvAt w' B F S vv' (M++ext) (Pl.qdk S k s e))∧Cuv B F w w'
structure Nmi (w wr:World) (B:Nat) (F:Fix) (S:List Pl.Src) (vv:Value) (M:List Nat) (s:Pl.Sr) (G:Nat) (y:Pl.Sx) (R:Nat) (z:Pl.Sx) (E:Nat) (e:Pl.En):Prop where
 sv:SvAt wr B F S vv M s
 end':StIn wr G y
 res:StIn wr R z
 ne:G≠R
 ent:wr.heap[E]?=some (.cells (qak e) 180 (0,0))
 old:w.heap.size≤R∧B≤w.heap.size
 cuv:Cuv B F w wr
 tabs:TabB B wr
theorem Nmi.below {w wr w':World} {B:Nat} {F:Fix} {S:List Pl.Src} {vv:Value} {M:List Nat} {s:Pl.Sr} {G:Nat} {y:Pl.Sx} {R:Nat} {z:Pl.Sx} {E:Nat} {e:Pl.En} (h:Nmi w wr B F S vv M s G y R z E e) (hb:Below wr.heap.size wr w'):Nmi w w' B F S vv M s G y R z E e:=
 have hB:B≤wr.heap.size:=Nat.le_trans h.old.2 h.cuv.below.size
 ⟨h.sv.below hb,h.end'.below hb,h.res.below hb,h.ne,(hb.block _ (Array.getElem?_eq_some_iff.1 h.ent).1).trans h.ent,h.old,h.cuv.trans (Cuv.of_below hb hB),h.tabs.kept (hb.mono hB)⟩
theorem Nmi.alloc {w wr:World} {B:Nat} {F:Fix} {S:List Pl.Src} {vv:Value} {M:List Nat} {s:Pl.Sr} {G:Nat} {y:Pl.Sx} {R:Nat} {z:Pl.Sx} {E:Nat} {e:Pl.En} (h:Nmi w wr B F S vv M s G y R z E e) (o:Obj):Nmi w (wr.alloc o) B F S vv M s G y R z E e:=h.below ((Below.refl _ _).alloc (Nat.le_refl _) o)
theorem Nmi.drew {w wr:World} {B:Nat} {F:Fix} {S:List Pl.Src} {vv:Value} {M:List Nat} {s:Pl.Sr} {G:Nat} {y:Pl.Sx} {R:Nat} {z:Pl.Sx} {E:Nat} {e:Pl.En} (h:Nmi w wr B F S vv M s G y R z E e):Nmi w wr.drew B F S vv M s G y R z E e:=h.below (Below.refl _ _).drew
theorem Nmi.turn {w wr w':World} {B:Nat} {F:Fix} {S:List Pl.Src} {vv vv':Value} {M M':List Nat} {s s':Pl.Sr} {G:Nat} {y:Pl.Sx} {R:Nat} {z:Pl.Sx} {E:Nat} {e:Pl.En} (h:Nmi w wr B F S vv M s G y R z E e) (hs:SvAt w' B F S vv' M' s') (hc:Cuv B F wr w'):Nmi w w' B F S vv' M' s' G y R z E e:=by
 have k1:=hc.keep G _ _ _ h.end' (qaf h.end' h.sv.se.blk qb0) (by decide) (by decide)
 have k2:=hc.keep R _ _ _ h.res (qaf h.res h.sv.se.blk qb0) (by decide) (by decide)
 have k3:=hc.keep E _ _ _ h.ent (qaf h.ent h.sv.se.blk qb1) (by decide) (by decide)
 exact⟨hs,k1.trans h.end',k2.trans h.res,h.ne,k3.trans h.ent,h.old,h.cuv.trans hc,h.tabs.kept hc.below⟩
theorem Nmi.set {w wr:World} {B:Nat} {F:Fix} {S:List Pl.Src} {vv:Value} {M:List Nat} {s:Pl.Sr} {G:Nat} {y:Pl.Sx} {R:Nat} {z:Pl.Sx} {E:Nat} {e:Pl.En} (h:Nmi w wr B F S vv M s G y R z E e) (x:Pl.Sx):Nmi w (qcn wr R (.int .u8 (x.st.mode:Int)) (.string ⟨x.st.name.toArray⟩) (.string ⟨x.st.elem.toArray⟩) (.int .i64 x.st.kind) (.int .i64 (x.st.read:Int)) (.bool x.ma.ref) (.bool x.st.esc) (.int .i64 x.ma.hex) (.int .i64 x.ma.pct) (.int .i64 x.ma.far)) B F S vv M s G y R x E e:=by
 have hfar:=fun k (hk:k≠R)=>qf9 (w:=wr) hk (.int .u8 (x.st.mode:Int)) (.string ⟨x.st.name.toArray⟩) (.string ⟨x.st.elem.toArray⟩) (.int .i64 x.st.kind) (.int .i64 (x.st.read:Int)) (.bool x.ma.ref) (.bool x.st.esc) (.int .i64 x.ma.hex) (.int .i64 x.ma.pct) (.int .i64 x.ma.far)
 have hbel:Below R wr (qcn wr R (.int .u8 (x.st.mode:Int)) (.string ⟨x.st.name.toArray⟩) (.string ⟨x.st.elem.toArray⟩) (.int .i64 x.st.kind) (.int .i64 (x.st.read:Int)) (.bool x.ma.ref) (.bool x.st.esc) (.int .i64 x.ma.hex) (.int .i64 x.ma.pct) (.int .i64 x.ma.far)):=qaw (Below.refl _ _) (Nat.le_refl _) _ _ _ _ _ _ _ _ _ _
 have hs:=h.res.set x
 generalize qcn wr R _ _ _ _ _ _ _ _ _ _=w' at hfar hbel hs ⊢
 have hB:=hbel.mono (Nat.le_trans h.old.2 h.old.1)
 refine⟨h.sv.far h.res hfar,(hfar _ h.ne).trans h.end',hs,h.ne,(hfar _ (qaf h.ent h.res qgz)).trans h.ent,h.old,⟨h.cuv.below.trans hB,fun k cs t fz hk h1 h2 h3=>(hfar k (fun e=>?_)).trans (h.cuv.keep k cs t fz hk h1 h2 h3)⟩,h.tabs.kept hB⟩
 have:=(Array.getElem?_eq_some_iff.1 hk).1
 have:=h.old.1
 omega
theorem Nmi.post {w wr:World} {B:Nat} {F:Fix} {S:List Pl.Src} {vv:Value} {M ext:List Nat} {s:Pl.Sr} {G:Nat} {y:Pl.Sx} {R:Nat} {z:Pl.Sx} {E:Nat} {e:Pl.En} (h:Nmi w wr B F S vv (M++ext) s G y R z E e) {a:Act} {n:Int} (h6:a.tmps.getD 6 undef=.int .i64 n) (hp:a.tmps.getD 7 undef=.pointer (some ⟨R,0,none⟩)) (hd:a.defers=[]) :
  bodyPost Tryz.prog Tryz.f110 (fun ed w'=>ed=.returned (.tuple #[.int .i64 n,qad z])∧(∃ vv' ext',SvAt w' B F S vv' (M++ext') s)∧Cuv B F w w') .ret a wr:=by
 refine bodyPost_ret ?_ hd (⟨rfl,⟨vv,ext,h.sv⟩,h.cuv⟩:_∧_)
 have hl:=qbw (P:=Tryz.prog) wr R 162 (qab z) _ (qaa h.res) Tryz.underlying162 rfl (by kernel_rfl)
 rw[Array.getD_eq_getD_getElem?]at h6 hp
 simp only[results,Tryz.results110]
 simp[h6,hp,asAddr,hl]
 rfl
set_option maxRecDepth 100000 in
set_option maxHeartbeats 6400000 in
theorem qwc (S:List Pl.Src) (hS:SrcsOk S) (w:World) (B:Nat) (F:Fix) (vv:Value) (s:Pl.Sr) (n:List UInt8) (x:Pl.Sx) (h:SeAt w B F S vv s) (ho:Pl.EndsOk S.length s.ends) (hx:Pl.SxFit x) (hn:n.length≤2000) (hB:B≤w.heap.size) (ht:TabB B w) (h0:Pl.qag S n≠0) (hy:Pl.qa7 s.ends (Pl.qag S n,x)=none) (hf:s.ends.length=256) :
  Calls Tryz.prog 156 #[.pointer (some ⟨F.g,0,none⟩),.string ⟨n.toArray⟩,qad x] w fun ed w'=>ed=.returned (qad Pl.Sx.none)∧SeAt w' B F S vv { s with fault:=Pl.qpq }∧Cue B F w w':=by
 have b1:∀ o o',((w.alloc o).alloc o').cell? ⟨F.g,1,none⟩=some (.map (some F.bp)):=fun o o'=>((h.alloc o).alloc o').cell 1 _ rfl
 have b2:∀ o o' o'',(((w.alloc o).alloc o').alloc o'').cell? ⟨F.g,1,none⟩=some (.map (some F.bp)):=fun o o' o''=>(((h.alloc o).alloc o').alloc o'').cell 1 _ rfl
 have l1:=fun o o'=>((h.alloc o).alloc o').drew.place hS n (by omega)
 have l2:=fun o o' o''=>(((h.alloc o).alloc o').alloc o'').drew.place hS n (by omega)
 have hi6:Pl.qag S n≤6:=by have:=Pl.qen S n h0; have:=hS.few; omega
 have HI:=(show Hid _ from qis (x:=x) h hB ht (Pl.qag S n))
 generalize hi:Pl.qag S n=i at *
 have i0:((i:Int)==0)=false:=by rw[beq_eq_false_iff_ne]; omega
 generalize (⟨n.toArray⟩:ByteArray)=N at l1 l2 ⊢
 rw[qc6]at HI
 unfold qak qab bs at HI
 unfold qad
 rw[qc6]
 unfold qab bs
 clear h
 have HY:=(show Hid _ from hy)
 clear hy
 go_enter Tryz.func156,Tryz.ntmps156
 go_wp2_with fail
 go_region
 go_wp2_with fail
 clear b1 b2 l1 l2
 generalize World.drew _=w3 at HI ⊢
 have l3:=HI.out.se.drew.look hS ho (i,x) hx hi6 true
 have l4:=fun o=>(HI.out.se.alloc o).drew.look hS ho (i,x) hx hi6 true
 rw[HY.out]at l3 l4
 have b1:w3.cell? ⟨F.g,2,none⟩=some (.map (some F.be)):=HI.out.se.cell 2 _ rfl
 have b2:∀ o,(w3.alloc o).cell? ⟨F.g,2,none⟩=some (.map (some F.be)):=fun o=>(HI.out.se.alloc o).cell 2 _ rfl
 have he:=qca HI.out.ent
 have hg:=fun o=>qca (HI.out.alloc o).ent
 unfold qak bs at he hg
 have hr:=fun o=>(HI.out.alloc o).res
 have m0:=he 0 _ rfl
 have m1:=he 1 _ rfl
 have m2:=he 2 _ rfl
 have m3:=he 3 _ rfl
 have m4:=he 4 _ rfl
 have m5:=he 5 _ rfl
 have m6:=he 6 _ rfl
 have m7:=he 7 _ rfl
 have m8:=he 8 _ rfl
 have m9:=he 9 _ rfl
 have m10:=he 10 _ rfl
 have n0:=fun o=>hg o 0 _ rfl
 have n1:=fun o=>hg o 1 _ rfl
 have n2:=fun o=>hg o 2 _ rfl
 have n3:=fun o=>hg o 3 _ rfl
 have n4:=fun o=>hg o 4 _ rfl
 have n5:=fun o=>hg o 5 _ rfl
 have n6:=fun o=>hg o 6 _ rfl
 have n7:=fun o=>hg o 7 _ rfl
 have n8:=fun o=>hg o 8 _ rfl
 have n9:=fun o=>hg o 9 _ rfl
 have n10:=fun o=>hg o 10 _ rfl
 clear he hg hr
 simp only[Option.getD_none,Option.isSome_none,if_true,qbh]at l3 l4
 unfold qad qak at l3 l4
 simp only[qc6]at l3 l4
 unfold bs at l3 l4
 go_region
 have H4:=(show Hid _ from(HI.out.alloc (.cells (qab Pl.Sx.none) 162)).drew)
 rw[qc6]at H4
 clear l3 l4 b1 b2 m0 m1 m2 m3 m4 m5 m6 m7 m8 m9 m10 n0 n1 n2 n3 n4 n5 n6 n7 n8 n9 n10
 generalize World.drew _=w4 at H4 ⊢
 have hl:=H4.out.se.len
 rw[hf]at hl
 have b1:w4.cell? ⟨F.g,2,none⟩=some (.map (some F.be)):=H4.out.se.cell 2 _ rfl
 have y5:w4.cell? ⟨F.g,5,none⟩=some _:=H4.out.se.cell 5 _ rfl
 have y6:w4.cell? ⟨F.g,6,none⟩=some _:=H4.out.se.cell 6 _ rfl
 have y7:w4.cell? ⟨F.g,7,none⟩=some _:=H4.out.se.cell 7 _ rfl
 have y8:w4.cell? ⟨F.g,8,none⟩=some _:=H4.out.se.cell 8 _ rfl
 have z5:=H4.out.se.thaw 5
 have z6:=H4.out.se.thaw 6
 have z7:=H4.out.se.thaw 7
 have z8:=H4.out.se.thaw 8
 have hr:=H4.out.res
 have hne:F.g≠w.heap.size+1:=qaf H4.out.se.blk hr qb0.symm
 have r0:=hr.at'.mode
 have r1:=hr.at'.name
 have r2:=hr.at'.elem
 have r3:=hr.at'.kind
 have r4:=hr.at'.read
 have r5:=hr.at'.ref
 have r6:=hr.at'.esc
 have r7:=hr.at'.hex
 have r8:=hr.at'.pct
 have r9:=hr.at'.far
 have f0:=hr.slot.thaw 0
 have f1:=hr.slot.thaw 1
 have f2:=hr.slot.thaw 2
 have f3:=hr.slot.thaw 3
 have f4:=hr.slot.thaw 4
 have f5:=hr.slot.thaw 5
 have f6:=hr.slot.thaw 6
 have f7:=hr.slot.thaw 7
 have f8:=hr.slot.thaw 8
 have f9:=hr.slot.thaw 9
 clear hr
 have HF:Hid (Bhi w (qcn (qly w4 F.g (.int .i64 3) (.int .i64 0) (.string ⟨#[]⟩) (.int .i64 0)) (w.heap.size+1) (.int .u8 0) (.string ⟨#[]⟩) (.string ⟨#[]⟩) (.int .i64 0) (.int .i64 0) (.bool false) (.bool false) (.int .i64 0) (.int .i64 0) (.int .i64 0)) B F S vv { s with fault:=Pl.qpq } (w.heap.size+1+1) (w.heap.size+1) (i,x) Pl.Sx.none):=by
  have hf:=SeAt.fault H4.out.se Pl.qpq
  exact(H4.out.turn hf.1 hf.2).set Pl.Sx.none
 unfold qcn qly at HF
 go_wp2_with fail
 refine HF.out.post ?_ ?_
 ·rfl
 ·rfl
set_option maxRecDepth 100000 in
set_option maxHeartbeats 6400000 in
theorem qzn (HB:qgn) (S:List Pl.Src) (hS:SrcsOk S) (k:Nat) (HC:BehC S k) (w:World) (B:Nat) (F:Fix) (vv:Value) (s:Pl.Sr) (n:List UInt8) (x:Pl.Sx) (h:SeAt w B F S vv s) (ho:Pl.EndsOk S.length s.ends) (hx:Pl.SxFit x) (hn:n.length≤2000) (hB:B≤w.heap.size) (ht:TabB B w) (h0:Pl.qag S n≠0) (hy:Pl.qa7 s.ends (Pl.qag S n,x)=none) (hk:257≤s.ends.length+(k+1)) (hf:¬ s.ends.length=256) (r:Pl.Sr×Pl.Sx) (hr:Pl.qdd (Pl.behV S k) (Pl.qaj S (Pl.qag S n)) ((Pl.qaj S (Pl.qag S n)).length+1) 0 { s with ends:=Pl.qbg s.ends (Pl.qag S n,x) Pl.Sx.none } x=r) :
  Calls Tryz.prog 156 #[.pointer (some ⟨F.g,0,none⟩),.string ⟨n.toArray⟩,qad x] w fun ed w'=>ed=.returned (qad r.2)∧SeAt w' B F S vv { r.1 with ends:=Pl.qbg r.1.ends (Pl.qag S n,x) r.2 }∧Cue B F w w':=by
 have hpl:=Pl.qen S n h0
 have hlen:(Pl.qbg s.ends (Pl.qag S n,x) Pl.Sx.none).length=s.ends.length+1:=by rw[Pl.qem hy]; simp
 have ho1:Pl.EndsOk S.length (Pl.qbg s.ends (Pl.qag S n,x) Pl.Sx.none):=Pl.qi4 ho ⟨hx,hpl⟩ Pl.qqu (by have:=ho.few; omega)
 have hwk:=Pl.ql5 (Pl.qiu S k (s.ends.length+1) (by omega)) (Pl.qaj S (Pl.qag S n)) ((Pl.qaj S (Pl.qag S n)).length+1) 0 { s with ends:=Pl.qbg s.ends (Pl.qag S n,x) Pl.Sx.none } x ho1 (by show s.ends.length+1≤(Pl.qbg _ _ _).length; omega) (.inr hx)
 rw[hr]at hwk
 have HWalk:=fun(w5:World) (h5:SeAt w5 B F S vv { s with ends:=Pl.qbg s.ends (Pl.qag S n,x) Pl.Sx.none }) (hb5:B≤w5.heap.size) (ht5:TabB B w5)=>qwl HB S hS k HC w5 B F vv _ (Pl.qag S n,x) h5 ho1 (by show 257≤(Pl.qbg _ _ _).length+k; omega) hx hpl.2 hb5 ht5
 simp only[hr]at HWalk
 have b1:∀ o o',((w.alloc o).alloc o').cell? ⟨F.g,1,none⟩=some (.map (some F.bp)):=fun o o'=>((h.alloc o).alloc o').cell 1 _ rfl
 have b2:∀ o o' o'',(((w.alloc o).alloc o').alloc o'').cell? ⟨F.g,1,none⟩=some (.map (some F.bp)):=fun o o' o''=>(((h.alloc o).alloc o').alloc o'').cell 1 _ rfl
 have l1:=fun o o'=>((h.alloc o).alloc o').drew.place hS n (by omega)
 have l2:=fun o o' o''=>(((h.alloc o).alloc o').alloc o'').drew.place hS n (by omega)
 have hi6:Pl.qag S n≤6:=by have:=Pl.qen S n h0; have:=hS.few; omega
 have HI:=(show Hid _ from qis (x:=x) h hB ht (Pl.qag S n))
 generalize hi:Pl.qag S n=i at *
 have HO1:=(show Hid _ from ho1)
 have HWK:=(show Hid _ from hwk)
 clear ho1 hwk hlen
 have i0:((i:Int)==0)=false:=by rw[beq_eq_false_iff_ne]; omega
 generalize (⟨n.toArray⟩:ByteArray)=N at l1 l2 ⊢
 rw[qc6]at HI
 unfold qak qab bs at HI
 simp only[qbh]at HWalk
 unfold qad qak qab bs at HWalk
 unfold qad qab bs
 have HW:=(show Hid _ from HWalk)
 clear h HWalk hr
 have HY:=(show Hid _ from hy)
 clear hy
 go_enter Tryz.func156,Tryz.ntmps156
 go_wp2_with fail
 go_region
 go_wp2_with fail
 clear b1 b2 l1 l2
 generalize World.drew _=w3 at HI ⊢
 have l3:=HI.out.se.drew.look hS ho (i,x) hx hi6 true
 have l4:=fun o=>(HI.out.se.alloc o).drew.look hS ho (i,x) hx hi6 true
 rw[HY.out]at l3 l4
 have b1:w3.cell? ⟨F.g,2,none⟩=some (.map (some F.be)):=HI.out.se.cell 2 _ rfl
 have b2:∀ o,(w3.alloc o).cell? ⟨F.g,2,none⟩=some (.map (some F.be)):=fun o=>(HI.out.se.alloc o).cell 2 _ rfl
 have he:=qca HI.out.ent
 have hg:=fun o=>qca (HI.out.alloc o).ent
 unfold qak bs at he hg
 have hq:=fun o=>(HI.out.alloc o).res
 have m0:=he 0 _ rfl
 have m1:=he 1 _ rfl
 have m2:=he 2 _ rfl
 have m3:=he 3 _ rfl
 have m4:=he 4 _ rfl
 have m5:=he 5 _ rfl
 have m6:=he 6 _ rfl
 have m7:=he 7 _ rfl
 have m8:=he 8 _ rfl
 have m9:=he 9 _ rfl
 have m10:=he 10 _ rfl
 have n0:=fun o=>hg o 0 _ rfl
 have n1:=fun o=>hg o 1 _ rfl
 have n2:=fun o=>hg o 2 _ rfl
 have n3:=fun o=>hg o 3 _ rfl
 have n4:=fun o=>hg o 4 _ rfl
 have n5:=fun o=>hg o 5 _ rfl
 have n6:=fun o=>hg o 6 _ rfl
 have n7:=fun o=>hg o 7 _ rfl
 have n8:=fun o=>hg o 8 _ rfl
 have n9:=fun o=>hg o 9 _ rfl
 have n10:=fun o=>hg o 10 _ rfl
 clear he hg hq
 simp only[Option.getD_none,Option.isSome_none,if_true,qbh]at l3 l4
 unfold qad qak at l3 l4
 simp only[qc6]at l3 l4
 unfold bs at l3 l4
 go_region
 have H4:=(show Hid _ from(HI.out.alloc (.cells (qab Pl.Sx.none) 162)).drew)
 rw[qc6]at H4
 clear l3 l4 b1 b2 m0 m1 m2 m3 m4 m5 m6 m7 m8 m9 m10 n0 n1 n2 n3 n4 n5 n6 n7 n8 n9 n10
 generalize World.drew _=w4 at H4 ⊢
 have hl:=H4.out.se.len
 have hlf:((s.ends.length:Int)==256)=false:=by rw[beq_eq_false_iff_ne]; omega
 generalize (s.ends.length:Int)=L at hl hlf
 have b1:w4.cell? ⟨F.g,2,none⟩=some (.map (some F.be)):=H4.out.se.cell 2 _ rfl
 have he:=qca H4.out.ent
 obtain⟨w5,hrun5,hse5,hcu5,_⟩:=H4.out.se.drew.store hS ho (i,x) hx hi6 Pl.Sx.none
 simp only[qbh]at hrun5
 unfold qad qak at hrun5
 rw[qc6]at hrun5
 unfold qak bs at he
 unfold bs at hrun5
 simp only at hrun5
 have m0:=he 0 _ rfl
 have m1:=he 1 _ rfl
 have m2:=he 2 _ rfl
 have m3:=he 3 _ rfl
 have m4:=he 4 _ rfl
 have m5:=he 5 _ rfl
 have m6:=he 6 _ rfl
 have m7:=he 7 _ rfl
 have m8:=he 8 _ rfl
 have m9:=he 9 _ rfl
 have m10:=he 10 _ rfl
 clear he
 have H5:=(show Hid _ from H4.out.drew.turn hse5 hcu5)
 clear hse5 hcu5
 go_wp2_with fail
 go_region
 clear hrun5 b1 m0 m1 m2 m3 m4 m5 m6 m7 m8 m9 m10 hl hlf
 have b1:w5.cell? ⟨F.g,2,none⟩=some (.map (some F.be)):=H5.out.se.cell 2 _ rfl
 have he:=qca H5.out.ent
 unfold qak bs at he
 have m0:=he 0 _ rfl
 have m1:=he 1 _ rfl
 have m2:=he 2 _ rfl
 have m3:=he 3 _ rfl
 have m4:=he 4 _ rfl
 have m5:=he 5 _ rfl
 have m6:=he 6 _ rfl
 have m7:=he 7 _ rfl
 have m8:=he 8 _ rfl
 have m9:=he 9 _ rfl
 have m10:=he 10 _ rfl
 clear he
 go_wp2_with fail
 have H6:=(show Hid _ from fun(w6:World) (hse:SeAt w6 B F S vv r.1) (hcu:Cue B F w5.drew w6)=>(H5.out.drew).turn hse hcu)
 go_cut [] (fun wx=>Hid (Bhi w wx B F S vv { r.1 with ends:=Pl.qbg r.1.ends (i,x) r.2 } (w.heap.size+1+1) (w.heap.size+1) (i,x) Pl.Sx.none))
 case first=>
  go_region_with (first
   | (go_at_call 112; refine(HW.out _ H5.out.drew.se (Nat.le_trans H5.out.old.2 H5.out.drew.cue.below.size) H5.out.drew.tabs).mono ?_; rintro e w6 ⟨rfl,hse6,hcu6⟩
      have HH6:=(show Hid _ from H6.out w6 hse6 hcu6)
      obtain⟨w7,hrun7,hse7,hcu7,_⟩:=hse6.store hS HWK.out.1.ok (i,x) hx hi6 r.2
      have HH7:=(show Hid _ from HH6.out.turn hse7 hcu7)
      simp only[qbh]at hrun7
      unfold qad qak qab bs at hrun7
      simp only at hrun7
      have b2:w6.cell? ⟨F.g,2,none⟩=some (.map (some F.be)):=HH6.out.se.cell 2 _ rfl
      have he:=qca HH6.out.ent
      unfold qak bs at he
      have n0:=he 0 _ rfl
      have n1:=he 1 _ rfl
      have n2:=he 2 _ rfl
      have n3:=he 3 _ rfl
      have n4:=he 4 _ rfl
      have n5:=he 5 _ rfl
      have n6:=he 6 _ rfl
      have n7:=he 7 _ rfl
      have n8:=he 8 _ rfl
      have n9:=he 9 _ rfl
      have n10:=he 10 _ rfl
      clear he hse6 hcu6 hse7 hcu7))
  all_goals
   go_wp2_with fail
   go_meet
   case rel=>exact HH7.out
 case rest=>
  have HC0:=hcut
  clear hcut
  have hget:Pl.qa7 (Pl.qbg r.1.ends (i,x) r.2) (i,x)=some r.2:=by rw[Pl.qf2,if_pos rfl]
  have hhas:Pl.qa7 r.1.ends (i,x)≠none:=HWK.out.1.has _ (by show Pl.qa7 (Pl.qbg _ _ _) _≠_; rw[Pl.qf2,if_pos rfl]; simp)
  have ho2:Pl.EndsOk S.length (Pl.qbg r.1.ends (i,x) r.2):=Pl.qi4 HWK.out.1.ok ⟨hx,hpl⟩ HWK.out.2 (by rw[Pl.qpg,if_neg hhas]; exact HWK.out.1.ok.few)
  have l5:=HC0.out.se.drew.look hS ho2 (i,x) hx hi6 false
  simp only[hget,Option.getD_some,Bool.false_eq_true,if_false,qbh]at l5
  unfold qad qak qab bs at l5
  simp only at l5
  have b2:wc.cell? ⟨F.g,2,none⟩=some (.map (some F.be)):=HC0.out.se.cell 2 _ rfl
  have he:=qca HC0.out.ent
  unfold qak bs at he
  have hr:=HC0.out.res
  have n0:=he 0 _ rfl
  have n1:=he 1 _ rfl
  have n2:=he 2 _ rfl
  have n3:=he 3 _ rfl
  have n4:=he 4 _ rfl
  have n5:=he 5 _ rfl
  have n6:=he 6 _ rfl
  have n7:=he 7 _ rfl
  have n8:=he 8 _ rfl
  have n9:=he 9 _ rfl
  have n10:=he 10 _ rfl
  have r0:=hr.at'.mode
  have r1:=hr.at'.name
  have r2:=hr.at'.elem
  have r3:=hr.at'.kind
  have r4:=hr.at'.read
  have r5:=hr.at'.ref
  have r6:=hr.at'.esc
  have r7:=hr.at'.hex
  have r8:=hr.at'.pct
  have r9:=hr.at'.far
  have f0:=hr.slot.thaw 0
  have f1:=hr.slot.thaw 1
  have f2:=hr.slot.thaw 2
  have f3:=hr.slot.thaw 3
  have f4:=hr.slot.thaw 4
  have f5:=hr.slot.thaw 5
  have f6:=hr.slot.thaw 6
  have f7:=hr.slot.thaw 7
  have f8:=hr.slot.thaw 8
  have f9:=hr.slot.thaw 9
  have HF:=(show Hid _ from(HC0.out.set r.2).drew)
  unfold qcn at HF
  clear he hr hget hhas ho2
  go_wp2_with fail
  go_region
  go_wp2_with fail
  refine HF.out.post ?_ ?_
  ·rfl
  ·rfl
theorem behC (HB:qgn) (S:List Pl.Src) (hS:SrcsOk S):∀ k,BehC S k:=by
 intro k
 induction k with
 | zero=>
   intro w B F vv s n x h ho hk
   have:=ho.few; omega
 | succ k ih=>
   intro w B F vv s n x h ho hk hx hn ht
   have hB:B≤w.heap.size:=by
    have h1:=h.le.1
    have h2:=(Array.getElem?_eq_some_iff.1 h.blk).1
    omega
   unfold Pl.behV
   by_cases h0:Pl.qag S n=0
   ·rw[if_pos h0]
    exact qrp S hS w B F vv s n x h hn hB h0
   rw[if_neg h0]
   cases hy:Pl.qa7 s.ends (Pl.qag S n,x) with
   | some y=>exact qt9 S hS w B F vv s n x h ho hx hn hB ht h0 y hy
   | none=>
     simp only
     by_cases hf:s.ends.length=256
     ·rw[if_pos hf]
      exact qwc S hS w B F vv s n x h ho hx hn hB ht h0 hy hf
     ·rw[if_neg hf]
      exact qzn HB S hS k ih w B F vv s n x h ho hx hn hB ht h0 hy hk hf _ rfl
end Go.Proofs.YtfkhljmiehdgmaaGreatDoor
