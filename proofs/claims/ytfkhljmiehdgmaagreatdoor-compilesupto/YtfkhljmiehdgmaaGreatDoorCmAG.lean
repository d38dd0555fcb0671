/-
  Steps of the proof.
-/
import Derived.Test.YtfkhljmiehdgmaaGreatDoorCmAF
import Derived.Deep.LoopGhost
set_option maxRecDepth 100000
set_option maxHeartbeats 40000000
namespace Go.Proofs.YtfkhljmiehdgmaaGreatDoor
open Go.RowKit
theorem qe7{P:Program}{fn:Func}{R:Ending->World->Prop}{a:Act}{w:World}{t u:Tmp}(h:fn.results=#[.tmp t,.tmp u])(ha:a.defers=[])(x y:Value)(hx:a.tmps.getD t undef=x)(hy:a.tmps.getD u undef=y)(hR:R (.returned (.tuple #[x,y])) w):bodyPost P fn R .ret a w:=by
 subst hx hy;refine bodyPost_ret ?_ ha hR;simp[results,h]
theorem q9q(x:Pl.Sx)(w:World)(h0:Pl.qat x.st.mode=0) :
  Calls Tryz.prog 108 #[qap x] w fun e w'=>e=.returned (.tuple #[.int .i64 x.hole.1,.int .i64 x.hole.2])/\Below w.heap.size w w':=by
 have hW:=fun w=>qdy x.st.mode w;have hH:=fun w=>qfy x w;have hI:=fun w=>qdr x w;have HV:Hid (x.hole=(0,10)):=by
  show _=_;unfold Pl.Sx.hole;rw[if_pos h0]
 rw[HV.out];clear HV;rw[h0]at hW;clear h0;unfold qap qaf bs at hH hI |-;have HW:=hd hW;have HH:=hd hH;have HI:=hd hI;clear hW hH hI;go_enter Tryz.func108,Tryz.ntmps108
 go_wp2_with (first
  |(go_at_call 154;refine(HW.out _).mono ?_;rintro e w' ⟨rfl,rfl⟩)
  |(go_at_call 155;refine(HH.out _).mono ?_;rintro e w' ⟨rfl,rfl⟩)
  |(go_at_call 153;refine(HI.out _).mono ?_;rintro e w' ⟨rfl,rfl⟩))
 refine qe7 Tryz.results108 rfl _ _ rfl rfl ?_;exact⟨rfl,by repeat(first|exact Below.refl _ _|refine Below.alloc ?_ (by simp<;>omega) _)⟩
theorem q9p(x:Pl.Sx)(w:World)(h0:¬Pl.qat x.st.mode=0)(h1:x.st.kind=2) :
  Calls Tryz.prog 108 #[qap x] w fun e w'=>e=.returned (.tuple #[.int .i64 x.hole.1,.int .i64 x.hole.2])/\Below w.heap.size w w':=by
 have hW:=fun w=>qdy x.st.mode w;have hH:=fun w=>qfy x w;have hI:=fun w=>qdr x w;have HV:Hid (x.hole=(0,11)):=by
  show _=_;unfold Pl.Sx.hole;rw[if_neg h0,if_pos h1]
 rw[HV.out];clear HV;have c0:((Pl.qat x.st.mode:Int)==0)=false:=by rw[beq_eq_false_iff_ne];omega
 unfold qap qaf bs;rw[h1];unfold qap qaf bs at hH hI;rw[h1]at hH hI;clear h0 h1;generalize (Pl.qat x.st.mode:Int)=a at hW c0;have HW:=hd hW;have HH:=hd hH;have HI:=hd hI;clear hW hH hI;go_enter Tryz.func108,Tryz.ntmps108
 go_wp2_with (first
  |(go_at_call 154;refine(HW.out _).mono ?_;rintro e w' ⟨rfl,rfl⟩)
  |(go_at_call 155;refine(HH.out _).mono ?_;rintro e w' ⟨rfl,rfl⟩)
  |(go_at_call 153;refine(HI.out _).mono ?_;rintro e w' ⟨rfl,rfl⟩))
 refine qe7 Tryz.results108 rfl _ _ rfl rfl ?_;exact⟨rfl,by repeat(first|exact Below.refl _ _|refine Below.alloc ?_ (by simp<;>omega) _)⟩
theorem q9o(x:Pl.Sx)(w:World)(h0:¬Pl.qat x.st.mode=0)(h1:¬x.st.kind=2)(h2:x.halfway=true) :
  Calls Tryz.prog 108 #[qap x] w fun e w'=>e=.returned (.tuple #[.int .i64 x.hole.1,.int .i64 x.hole.2])/\Below w.heap.size w w':=by
 have hW:=fun w=>qdy x.st.mode w;have hH:=fun w=>qfy x w;have hI:=fun w=>qdr x w;have HV:Hid (x.hole=(0,12)):=by
  show _=_;unfold Pl.Sx.hole;rw[if_neg h0,if_neg h1,if_pos h2]
 rw[HV.out];clear HV;have c0:((Pl.qat x.st.mode:Int)==0)=false:=by rw[beq_eq_false_iff_ne];omega
 have c1:((x.st.kind:Int)==2)=false:=by rw[beq_eq_false_iff_ne];exact h1
 rw[h2]at hH;clear h0 h1 h2;generalize (Pl.qat x.st.mode:Int)=a at hW c0;unfold qap qaf bs at hH hI |-;have HW:=hd hW;have HH:=hd hH;have HI:=hd hI;clear hW hH hI;go_enter Tryz.func108,Tryz.ntmps108
 go_wp2_with (first
  |(go_at_call 154;refine(HW.out _).mono ?_;rintro e w' ⟨rfl,rfl⟩)
  |(go_at_call 155;refine(HH.out _).mono ?_;rintro e w' ⟨rfl,rfl⟩)
  |(go_at_call 153;refine(HI.out _).mono ?_;rintro e w' ⟨rfl,rfl⟩))
 refine qe7 Tryz.results108 rfl _ _ rfl rfl ?_;exact⟨rfl,by repeat(first|exact Below.refl _ _|refine Below.alloc ?_ (by simp<;>omega) _)⟩
theorem q9n(x:Pl.Sx)(w:World)(h0:¬Pl.qat x.st.mode=0)(h1:¬x.st.kind=2)(h2:¬x.halfway=true)(h3:Pl.qba x.st.kind x.st.mode=true)(h4:x.ma.far=0) :
  Calls Tryz.prog 108 #[qap x] w fun e w'=>e=.returned (.tuple #[.int .i64 x.hole.1,.int .i64 x.hole.2])/\Below w.heap.size w w':=by
 have hW:=fun w=>qdy x.st.mode w;have hH:=fun w=>qfy x w;have hI:=fun w=>qdr x w;have HV:Hid (x.hole=(2,0)):=by
  show _=_;unfold Pl.Sx.hole;rw[if_neg h0,if_neg h1,if_neg h2,if_pos ⟨h3,h4⟩]
 rw[HV.out];clear HV;have c0:((Pl.qat x.st.mode:Int)==0)=false:=by rw[beq_eq_false_iff_ne];omega
 have c1:((x.st.kind:Int)==2)=false:=by rw[beq_eq_false_iff_ne];exact h1
 rw[Bool.eq_false_iff.2 h2]at hH;rw[h3]at hI;unfold qap qaf bs at hH hI |-;rw[h4]at hH hI |-;clear h0 h1 h2 h3 h4;generalize (Pl.qat x.st.mode:Int)=a at hW c0;have HW:=hd hW;have HH:=hd hH;have HI:=hd hI;clear hW hH hI;go_enter Tryz.func108,Tryz.ntmps108
 go_wp2_with (first
  |(go_at_call 154;refine(HW.out _).mono ?_;rintro e w' ⟨rfl,rfl⟩)
  |(go_at_call 155;refine(HH.out _).mono ?_;rintro e w' ⟨rfl,rfl⟩)
  |(go_at_call 153;refine(HI.out _).mono ?_;rintro e w' ⟨rfl,rfl⟩))
 refine qe7 Tryz.results108 rfl _ _ rfl rfl ?_;exact⟨rfl,by repeat(first|exact Below.refl _ _|refine Below.alloc ?_ (by simp<;>omega) _)⟩
theorem q9m(x:Pl.Sx)(w:World)(h0:¬Pl.qat x.st.mode=0)(h1:¬x.st.kind=2)(h2:¬x.halfway=true)(h3:Pl.qba x.st.kind x.st.mode=true)(h4:¬x.ma.far=0) :
  Calls Tryz.prog 108 #[qap x] w fun e w'=>e=.returned (.tuple #[.int .i64 x.hole.1,.int .i64 x.hole.2])/\Below w.heap.size w w':=by
 have hW:=fun w=>qdy x.st.mode w;have hH:=fun w=>qfy x w;have hI:=fun w=>qdr x w;have HV:Hid (x.hole=(3,0)):=by
  show _=_;unfold Pl.Sx.hole;rw[if_neg h0,if_neg h1,if_neg h2,if_neg (fun q=>h4 q.2),if_pos h3]
 rw[HV.out];clear HV;have c0:((Pl.qat x.st.mode:Int)==0)=false:=by rw[beq_eq_false_iff_ne];omega
 have c1:((x.st.kind:Int)==2)=false:=by rw[beq_eq_false_iff_ne];exact h1
 rw[Bool.eq_false_iff.2 h2]at hH;have c4:((x.ma.far:Int)==0)=false:=by rw[beq_eq_false_iff_ne];exact h4
 rw[h3]at hI;clear h0 h1 h2 h3 h4;generalize (Pl.qat x.st.mode:Int)=a at hW c0;unfold qap qaf bs at hH hI |-;have HW:=hd hW;have HH:=hd hH;have HI:=hd hI;clear hW hH hI;go_enter Tryz.func108,Tryz.ntmps108
 go_wp2_with (first
  |(go_at_call 154;refine(HW.out _).mono ?_;rintro e w' ⟨rfl,rfl⟩)
  |(go_at_call 155;refine(HH.out _).mono ?_;rintro e w' ⟨rfl,rfl⟩)
  |(go_at_call 153;refine(HI.out _).mono ?_;rintro e w' ⟨rfl,rfl⟩))
 refine qe7 Tryz.results108 rfl _ _ rfl rfl ?_;exact⟨rfl,by repeat(first|exact Below.refl _ _|refine Below.alloc ?_ (by simp<;>omega) _)⟩
theorem q9l(x:Pl.Sx)(w:World)(h0:¬Pl.qat x.st.mode=0)(h1:¬x.st.kind=2)(h2:¬x.halfway=true)(h3:¬Pl.qba x.st.kind x.st.mode=true) :
  Calls Tryz.prog 108 #[qap x] w fun e w'=>e=.returned (.tuple #[.int .i64 x.hole.1,.int .i64 x.hole.2])/\Below w.heap.size w w':=by
 have hW:=fun w=>qdy x.st.mode w;have hH:=fun w=>qfy x w;have hI:=fun w=>qdr x w;have HV:Hid (x.hole=(Pl.qat x.st.mode,0)):=by
  show _=_;unfold Pl.Sx.hole;rw[if_neg h0,if_neg h1,if_neg h2,if_neg (fun q=>h3 q.1),if_neg h3]
 rw[HV.out];clear HV;have c0:((Pl.qat x.st.mode:Int)==0)=false:=by rw[beq_eq_false_iff_ne];omega
 have c1:((x.st.kind:Int)==2)=false:=by rw[beq_eq_false_iff_ne];exact h1
 rw[Bool.eq_false_iff.2 h2]at hH;rw[Bool.eq_false_iff.2 h3]at hI;clear h0 h1 h2 h3;simp only;generalize (Pl.qat x.st.mode:Int)=a at hW c0 |-;unfold qap qaf bs at hH hI |-;have HW:=hd hW;have HH:=hd hH;have HI:=hd hI;clear hW hH hI;go_enter Tryz.func108,Tryz.ntmps108
 go_wp2_with (first
  |(go_at_call 154;refine(HW.out _).mono ?_;rintro e w' ⟨rfl,rfl⟩)
  |(go_at_call 155;refine(HH.out _).mono ?_;rintro e w' ⟨rfl,rfl⟩)
  |(go_at_call 153;refine(HI.out _).mono ?_;rintro e w' ⟨rfl,rfl⟩))
 refine qe7 Tryz.results108 rfl _ _ rfl rfl ?_;exact⟨rfl,by repeat(first|exact Below.refl _ _|refine Below.alloc ?_ (by simp<;>omega) _)⟩
theorem q4c(x:Pl.Sx)(w:World) :
  Calls Tryz.prog 108 #[qap x] w fun e w'=>e=.returned (.tuple #[.int .i64 x.hole.1,.int .i64 x.hole.2])/\Below w.heap.size w w':=by
 by_cases h0:Pl.qat x.st.mode=0
 ·exact q9q x w h0
 by_cases h1:x.st.kind=2
 ·exact q9p x w h0 h1
 by_cases h2:x.halfway=true
 ·exact q9o x w h0 h1 h2
 by_cases h3:Pl.qba x.st.kind x.st.mode=true
 ·by_cases h4:x.ma.far=0
  ·exact q9n x w h0 h1 h2 h3 h4
  ·exact q9m x w h0 h1 h2 h3 h4
 ·exact q9l x w h0 h1 h2 h3
theorem qtj(x:Pl.Sx)(w:World)(h3:¬Pl.qba x.st.kind x.st.mode=true) :
  Calls Tryz.prog 109 #[qap x] w fun e w'=>e=.returned (qap x.behindHole)/\Below w.heap.size w w':=by
 have hI:=fun w=>qdr x w;have HV:Hid (x.behindHole=x):=by
  show _=_;unfold Pl.Sx.behindHole;rw[if_neg (fun q=>h3 q.1)]
 rw[HV.out];clear HV;rw[Bool.eq_false_iff.2 h3]at hI;unfold qap qaf bs at hI |-;have HI:=hd hI;clear hI h3;go_enter Tryz.func109,Tryz.ntmps109
 go_wp2_with (go_at_call 153;refine(HI.out _).mono ?_;rintro e w' ⟨rfl,rfl⟩)
 refine bodyPost_ret (qbk Tryz.results109 _ _ (w.heap.size+1) _ _ rfl (qaa ((heap_alloc_old _ _ (by simp)).trans (qal (w.alloc _) _ _ (by simp)))) Tryz.underlying162 rfl (by kernel_rfl)) rfl ?_;exact⟨rfl,by repeat(first|exact Below.refl _ _|refine Below.alloc ?_ (by simp<;>omega) _)⟩
theorem qti(x:Pl.Sx)(w:World)(h3:Pl.qba x.st.kind x.st.mode=true)(h4:¬x.ma.far<2) :
  Calls Tryz.prog 109 #[qap x] w fun e w'=>e=.returned (qap x.behindHole)/\Below w.heap.size w w':=by
 have hI:=fun w=>qdr x w;have HV:Hid (x.behindHole=x):=by
  show _=_;unfold Pl.Sx.behindHole;rw[if_neg (fun q=>h4 q.2)]
 rw[HV.out];clear HV;rw[h3]at hI;unfold qap qaf bs at hI |-;have HI:=hd hI;have c4:2<=x.ma.far:=by omega
 clear hI h3 h4;go_enter Tryz.func109,Tryz.ntmps109
 go_wp2_with (go_at_call 153;refine(HI.out _).mono ?_;rintro e w' ⟨rfl,rfl⟩)
 refine bodyPost_ret (qbk Tryz.results109 _ _ (w.heap.size+1) _ _ rfl (qaa ((heap_alloc_old _ _ (by simp)).trans (qal (w.alloc _) _ _ (by simp)))) Tryz.underlying162 rfl (by kernel_rfl)) rfl ?_;exact⟨rfl,by repeat(first|exact Below.refl _ _|refine Below.alloc ?_ (by simp<;>omega) _)⟩
theorem qth(x:Pl.Sx)(w:World)(h3:Pl.qba x.st.kind x.st.mode=true)(h4:x.ma.far<2) :
  Calls Tryz.prog 109 #[qap x] w fun e w'=>e=.returned (qap x.behindHole)/\Below w.heap.size w w':=by
 have hI:=fun w=>qdr x w;have HV:Hid (x.behindHole=⟨x.st,⟨x.ma.ref,x.ma.hex,x.ma.pct,2⟩⟩):=by
  show _=_;unfold Pl.Sx.behindHole;rw[if_pos ⟨h3,h4⟩]
 rw[HV.out];clear HV;rw[h3]at hI;unfold qap qaf bs at hI |-;have HI:=hd hI;clear hI h3;go_enter Tryz.func109,Tryz.ntmps109
 go_wp2_with (go_at_call 153;refine(HI.out _).mono ?_;rintro e w' ⟨rfl,rfl⟩)
 refine bodyPost_ret (qbk Tryz.results109 _ _ (w.heap.size+1) _ _ rfl (qaa ((heap_alloc_old _ _ (by simp)).trans (qal (w.alloc _) _ _ (by simp)))) Tryz.underlying162 rfl (by kernel_rfl)) rfl ?_;exact⟨rfl,by repeat(first|exact Below.refl _ _|refine Below.alloc ?_ (by simp<;>omega) _)⟩
theorem qjj(x:Pl.Sx)(w:World) :
  Calls Tryz.prog 109 #[qap x] w fun e w'=>e=.returned (qap x.behindHole)/\Below w.heap.size w w':=by
 by_cases h3:Pl.qba x.st.kind x.st.mode=true
 ·by_cases h4:x.ma.far<2
  ·exact qth x w h3 h4
  ·exact qti x w h3 h4
 ·exact qtj x w h3
variable{B G R:Nat}{w w' wr:World}{x:Pl.Sx}{F:Fix}{S:List Pl.Src}{vv:Value}{s:Pl.Sr}
def TabB(B:Nat)(w:World):Prop:=PTabs w/\∃w0,PTabs w0/\w0.heap.size<=B
theorem TabB.kept(h:TabB B w)(hb:Below B w w'):TabB B w':=by
 obtain⟨h1,w0,h2,h3⟩:=h;exact⟨h1.kept' h2 (hb.mono h3),w0,h2,h3⟩
def qg9:Prop:=∀(x:Pl.Sx) (b:UInt8) (w:World),PTabs w->Pl.SxOk x ->
    Calls Tryz.prog 63 #[qap x,.int .u8 b.toNat] w fun e w'=>e=.returned (qap (x.behind b))/\Below w.heap.size w w'
def BehC(S:List Pl.Src)(k:Nat):Prop:=∀(w:World) (B:Nat) (F:Fix) (vv:Value) (s:Pl.Sr) (n:List UInt8) (x:Pl.Sx),SeAt w B F S vv s->Pl.EndsOk S.length s.ends->257<=s.ends.length+k->Pl.SxFit x->n.length<=2000->TabB B w ->
    Calls Tryz.prog 156 #[.pointer (some ⟨F.g,0,none⟩),.string ⟨n.toArray⟩,qap x] w fun e w'=>e=.returned (qap (Pl.behV S k s n x).2)/\SeAt w' B F S vv (Pl.behV S k s n x).1/\Cue B F w w'
def qao(e:Pl.En):Array Value:=#[.int .i64 e.1,.int .u8 (e.2.st.mode:Int),bs e.2.st.name,bs e.2.st.elem,.int .i64 e.2.st.kind,.int .i64 (e.2.st.read:Int),.bool e.2.ma.ref,.bool e.2.st.esc,.int .i64 e.2.ma.hex,.int .i64 e.2.ma.pct,.int .i64 e.2.ma.far]
theorem qbi(e:Pl.En):qf9 e=.agg (qao e):=rfl
def StIn(w:World)(G:Nat)(x:Pl.Sx):Prop:=w.heap[G]?=some (.cells (qaf x) 162 (0,0))
theorem StIn.at'(h:StIn w G x):SxAt w G x:=by
 have c:=qaa h;exact⟨c 0 _ rfl,c 1 _ rfl,c 2 _ rfl,c 3 _ rfl,c 4 _ rfl,c 5 _ rfl,c 6 _ rfl,c 7 _ rfl,c 8 _ rfl,c 9 _ rfl⟩
theorem StIn.slot(h:StIn w G x):qdg 10 w G:=⟨_,_,h,rfl⟩
theorem StIn.lt(h:StIn w G x):G<w.heap.size:=(Array.getElem?_eq_some_iff.1 h).1
theorem StIn.below(h:StIn w G x)(hb:Below w.heap.size w w'):StIn w' G x:=(hb.block _ h.lt).trans h
theorem qhb{g:Nat}{t:TypeId}:∀(l:List Value) (w:World) (k:Nat) (pre old:List Value),w.heap[g]?=some (.cells (pre++old).toArray t (0,0))->pre.length=k->old.length=l.length->(qgb w g k l).heap[g]?=some (.cells (pre++l).toArray t (0,0))
 |[],w,k,pre,old,h,_,ho=>by
   have:old=[]:=List.length_eq_zero_iff.1 ho;subst this;exact h
 |v::l,w,k,pre,old,h,hk,ho=>by
   cases old with
   |nil=>simp at ho
   |cons u old=>
     show(qgb (w.setCell ⟨g,k,none⟩ v) g (k+1) l).heap[g]?=_;have h1:=heap_setCell_same w g k _ t v h;have e:(pre++u::old).toArray.setIfInBounds k v=((pre++[v])++old).toArray:=by
      rw[List.setIfInBounds_toArray,List.set_append_right _ _ (by omega),hk,Nat.sub_self];simp
     rw[e]at h1;have:=qhb l _ (k+1) (pre++[v]) old h1 (by simp[hk]) (by simpa using ho);rw[this];simp
theorem StIn.set(h:StIn w G x)(y:Pl.Sx):StIn (qcs w G (.int .u8 (y.st.mode:Int)) (.string ⟨y.st.name.toArray⟩) (.string ⟨y.st.elem.toArray⟩) (.int .i64 y.st.kind) (.int .i64 (y.st.read:Int)) (.bool y.ma.ref) (.bool y.st.esc) (.int .i64 y.ma.hex) (.int .i64 y.ma.pct) (.int .i64 y.ma.far)) G y:=by
 unfold StIn at h |-;rw[qnt];exact qhb (t:=162) _ w 0 [] (qaf x).toList (by simpa using h) rfl rfl
theorem qgy{k:Nat}(h:k≠G)(v0 v1 v2 v3 v4 v5 v6 v7 v8 v9:Value):(qcs w G v0 v1 v2 v3 v4 v5 v6 v7 v8 v9).heap[k]?=w.heap[k]?:=by
 have e:∀(w:World) (j:Nat) (v:Value),(w.setCell ⟨G,j,none⟩ v).heap[k]?=w.heap[k]?:=fun w j v=>Below.heap_setCell _ _ _ _ h;unfold qcs;rw[e,e,e,e,e,e,e,e,e,e]
theorem qb1:(162:TypeId)≠178:=by decide
theorem qob:(162:TypeId)≠173:=by decide
theorem qry:(162:TypeId)≠229:=by decide
theorem SeAt.far(h:SeAt w B F S vv s){G:Nat}{x:Pl.Sx}(hG:StIn w G x)(hk:∀k,k≠G->w'.heap[k]?=w.heap[k]?):SeAt w' B F S vv s:=by
 obtain⟨cs',fz',hc⟩:=h.src.blk;refine⟨(hk _ (qae h.blk hG qb1.symm)).trans h.blk,h.src.kept (hk _ (qae hc hG qob.symm)) (fun i s' q hs hv=>?_),h.places.heap (hk _ (qak hG h.places).symm),h.ends.heap (hk _ (qak hG h.ends).symm),h.le,h.apart⟩;obtain⟨cur,ha⟩:=qad (h.src.row i s' hs) q hv;exact hk q (qae ha hG qry.symm)
structure Wki(w wr:World)(B:Nat)(F:Fix)(S:List Pl.Src)(vv:Value)(s:Pl.Sr)(G R:Nat)(x:Pl.Sx):Prop where
 se:SeAt wr B F S vv s
 now:StIn wr G x
 res:StIn wr R Pl.Sx.none
 ne:G≠R
 old:w.heap.size<=G/\w.heap.size<=R/\B<=w.heap.size
 cue:Cue B F w wr
 tabs:TabB B wr
theorem Wki.below(h:Wki w wr B F S vv s G R x)(hb:Below wr.heap.size wr w'):Wki w w' B F S vv s G R x:=
 have hB:B<=wr.heap.size:=Nat.le_trans h.old.2.2 h.cue.below.size
 ⟨h.se.below hb,h.now.below hb,h.res.below hb,h.ne,h.old,h.cue.trans (Cue.of_below hb hB),h.tabs.kept (hb.mono hB)⟩
theorem Wki.alloc(h:Wki w wr B F S vv s G R x)(o:Obj):Wki w (wr.alloc o) B F S vv s G R x:=h.below (ba o)
theorem Wki.drewN(h:Wki w wr B F S vv s G R x)(n:Nat):Wki w (wr.drewN n) B F S vv s G R x:=h.below (qay (Below.refl _ _) n)
theorem Wki.set(h:Wki w wr B F S vv s G R x)(y:Pl.Sx):Wki w (qcs wr G (.int .u8 (y.st.mode:Int)) (.string ⟨y.st.name.toArray⟩) (.string ⟨y.st.elem.toArray⟩) (.int .i64 y.st.kind) (.int .i64 (y.st.read:Int)) (.bool y.ma.ref) (.bool y.st.esc) (.int .i64 y.ma.hex) (.int .i64 y.ma.pct) (.int .i64 y.ma.far)) B F S vv s G R y:=by
 have ha:=fun k (hk:k≠G)=>qgy (w:=wr) hk (.int .u8 (y.st.mode:Int)) (.string ⟨y.st.name.toArray⟩) (.string ⟨y.st.elem.toArray⟩) (.int .i64 y.st.kind) (.int .i64 (y.st.read:Int)) (.bool y.ma.ref) (.bool y.st.esc) (.int .i64 y.ma.hex) (.int .i64 y.ma.pct) (.int .i64 y.ma.far);have Ha:Below G wr (qcs wr G (.int .u8 (y.st.mode:Int)) (.string ⟨y.st.name.toArray⟩) (.string ⟨y.st.elem.toArray⟩) (.int .i64 y.st.kind) (.int .i64 (y.st.read:Int)) (.bool y.ma.ref) (.bool y.st.esc) (.int .i64 y.ma.hex) (.int .i64 y.ma.pct) (.int .i64 y.ma.far)):=qei (Below.refl _ _) (Nat.le_refl _) _ _ _ _ _ _ _ _ _ _;have hs:=h.now.set y;generalize qcs wr G _ _ _ _ _ _ _ _ _ _=w' at ha Ha hs |-;refine⟨h.se.far h.now ha,hs,(ha _ h.ne.symm).trans h.res,h.ne,h.old,⟨h.cue.below.trans (Ha.mono (Nat.le_trans h.old.2.2 h.old.1)),fun k hk h1 h2=>(ha k (by have:=h.old.1;omega)).trans (h.cue.keep k hk h1 h2)⟩,h.tabs.kept (Ha.mono (Nat.le_trans h.old.2.2 h.old.1))⟩
theorem Wki.turn{s':Pl.Sr}(h:Wki w wr B F S vv s G R x)(hs:SeAt w' B F S vv s')(hc:Cue B F wr w'):Wki w w' B F S vv s' G R x:=by
 have h1:=hc.keep G h.now.lt (fun e=>qae h.se.blk h.now qb1.symm e.symm) (qak h.now h.se.ends);have h2:=hc.keep R h.res.lt (fun e=>qae h.se.blk h.res qb1.symm e.symm) (qak h.res h.se.ends);exact⟨hs,h1.trans h.now,h2.trans h.res,h.ne,h.old,h.cue.trans hc,h.tabs.kept hc.below⟩
theorem q6r(m:Int)(s:ByteArray)(w:World)(hs:s.size<=4000000000000000000) :
  Calls Tryz.prog 169 #[.int .i64 m,.string s] w fun e w'=>e=.returned (.string ⟨(Pl.kept m s.data.toList).toArray⟩)/\w=w':=by
 have HI:=hd (fun w=>qhe m w);have HE:=hd (fun w=>qmh s (Pl.qbe m) w hs);have HR:=hd (fun w=>qld s w hs)
 have HK:Hid (Pl.kept m s.data.toList=_):=show Pl.kept m s.data.toList=(if Pl.qb8 m=true then(if Pl.qd1 (Pl.qbe m) s.data.toList=0 then[]else s.data.toList)
  else if Pl.qhv s.data.toList=true then[38]else if m=1\/m=19 then[]else if 2<s.data.toList.length then s.data.toList.drop (s.data.toList.length - 2)else s.data.toList)from rfl
 have ha:Pl.qbe m=decide (28<=m):=rfl;generalize Pl.qd1 (Pl.qbe m) s.data.toList=l at HE HK;generalize Pl.qb8 m=I at HI HK;generalize Pl.qhv s.data.toList=R at HR HK;rw[ha]at HE;clear ha;cases I
 ·cases R
  ·by_cases hm:m=1\/m=19
   ·have HV:Hid (Pl.kept m s.data.toList=[]):=by show _=_;rw[HK.out,if_neg (by simp),if_neg (by simp),if_pos hm]
    clear HK;rcases hm with rfl|rfl
    all_goals
     go_enter Tryz.func169,Tryz.ntmps169
     go_wp2_with (first|(go_at_call 69;refine(HI.out _).mono ?_;rintro e w' ⟨rfl,rfl⟩)|(go_at_call 68;refine(HR.out _).mono ?_;rintro e w' ⟨rfl,rfl⟩))
     go_ret
     exact⟨qdd (by rw[HV.out]),rfl⟩
   ·have m1:(m==1)=false:=beq_eq_false_iff_ne.2 (fun q=>hm (.inl q))
    have m2:(m==19)=false:=beq_eq_false_iff_ne.2 (fun q=>hm (.inr q));by_cases h2:2<s.size
    ·have HV:Hid (Pl.kept m s.data.toList=s.data.toList.drop (s.size - 2)):=by show _=_;rw[HK.out,if_neg (by simp),if_neg (by simp),if_neg hm,if_pos (by show 2<s.data.toList.length;exact h2)];rfl
     have hi:(2:Int)<(s.size:Int):=by omega
     clear HK hm;go_enter Tryz.func169,Tryz.ntmps169
     go_wp2_with (first|(go_at_call 69;refine(HI.out _).mono ?_;rintro e w' ⟨rfl,rfl⟩)|(go_at_call 68;refine(HR.out _).mono ?_;rintro e w' ⟨rfl,rfl⟩))
     go_ret
     exact⟨qdd (by rw[HV.out];exact Pl.extract_drop s _),rfl⟩
    ·have HV:Hid (Pl.kept m s.data.toList=s.data.toList):=by show _=_;rw[HK.out,if_neg (by simp),if_neg (by simp),if_neg hm,if_neg (by show ¬ 2<s.data.toList.length;exact h2)]
     clear HK hm;go_enter Tryz.func169,Tryz.ntmps169
     go_wp2_with (first|(go_at_call 69;refine(HI.out _).mono ?_;rintro e w' ⟨rfl,rfl⟩)|(go_at_call 68;refine(HR.out _).mono ?_;rintro e w' ⟨rfl,rfl⟩))
     go_ret
     exact⟨qdd (by rw[HV.out]),rfl⟩
  ·have HV:Hid (Pl.kept m s.data.toList=[38]):=by show _=_;rw[HK.out,if_neg (by simp),if_pos rfl]
   clear HK;go_enter Tryz.func169,Tryz.ntmps169
   go_wp2_with (first|(go_at_call 69;refine(HI.out _).mono ?_;rintro e w' ⟨rfl,rfl⟩)|(go_at_call 68;refine(HR.out _).mono ?_;rintro e w' ⟨rfl,rfl⟩))
   go_ret
   exact⟨qdd (by rw[HV.out]),rfl⟩
 ·by_cases hl:l=0
  ·have HV:Hid (Pl.kept m s.data.toList=[]):=by show _=_;rw[HK.out,if_pos rfl,if_pos hl]
   subst hl;clear HK;go_enter Tryz.func169,Tryz.ntmps169
   go_wp2_with (first|(go_at_call 69;refine(HI.out _).mono ?_;rintro e w' ⟨rfl,rfl⟩)|(go_at_call 70;refine(HE.out _).mono ?_;rintro e w' ⟨rfl,rfl⟩))
   go_ret
   exact⟨qdd (by rw[HV.out]),rfl⟩
  ·have HV:Hid (Pl.kept m s.data.toList=s.data.toList):=by show _=_;rw[HK.out,if_pos rfl,if_neg hl]
   have Ha:(l==0)=false:=beq_eq_false_iff_ne.2 hl;clear HK hl;go_enter Tryz.func169,Tryz.ntmps169
   go_wp2_with (first|(go_at_call 69;refine(HI.out _).mono ?_;rintro e w' ⟨rfl,rfl⟩)|(go_at_call 70;refine(HE.out _).mono ?_;rintro e w' ⟨rfl,rfl⟩))
   go_ret
   exact⟨qdd (by rw[HV.out]),rfl⟩
theorem qr8(f:Int)(b:UInt8)(w:World) :
  Calls Tryz.prog 173 #[.int .i64 f,.int .u8 b.toNat] w fun e w'=>e=.returned (.int .i64 (Pl.qcq f b))/\w=w':=by
 by_cases ha:b=47
 ·subst ha
  have HV:Hid (Pl.qcq f 47=1):=by show _=_;unfold Pl.qcq;simp
  go_enter Tryz.func173,Tryz.ntmps173
  go_wp2
  go_ret
  exact⟨qan (by rw[HV.out]),rfl⟩
 have e47:((b.toNat:Int)==47)=false:=(Pl.qh5 b 47 (by omega)).trans (by rw[beq_eq_false_iff_ne];exact ha);by_cases Ha:b=63
 ·subst Ha
  have HV:Hid (Pl.qcq f 63=1):=by show _=_;unfold Pl.qcq;simp
  go_enter Tryz.func173,Tryz.ntmps173
  go_wp2
  go_ret
  exact⟨qan (by rw[HV.out]),rfl⟩
 have e63:((b.toNat:Int)==63)=false:=(Pl.qh5 b 63 (by omega)).trans (by rw[beq_eq_false_iff_ne];exact Ha);by_cases hb:b=35
 ·subst hb
  have HV:Hid (Pl.qcq f 35=1):=by show _=_;unfold Pl.qcq;simp
  go_enter Tryz.func173,Tryz.ntmps173
  go_wp2
  go_ret
  exact⟨qan (by rw[HV.out]),rfl⟩
 have e35:((b.toNat:Int)==35)=false:=(Pl.qh5 b 35 (by omega)).trans (by rw[beq_eq_false_iff_ne];exact hb);by_cases Hb:b=58/\¬f=4
 ·obtain⟨rfl,h4⟩:=Hb
  have hc:(f != 4)=true:=by rw[bne_iff_ne];exact h4
  have HV:Hid (Pl.qcq f 58=1):=by show _=_;unfold Pl.qcq;simp[hc]
  clear h4;go_enter Tryz.func173,Tryz.ntmps173
  go_wp2
  go_ret
  exact⟨qan (by rw[HV.out]),rfl⟩
 have hF:Pl.qcq f b=if f=2 then 3 else f:=by
  unfold Pl.qcq;rw[if_neg];simp only[Bool.or_eq_true,beq_iff_eq,Bool.and_eq_true,bne_iff_ne,ne_eq,not_or];exact⟨ha,Ha,hb,Hb⟩
 have e58:(((b.toNat:Int)==58)=false)\/(((b.toNat:Int)==58)=true/\f=4):=by
  by_cases q:b=58
  ·right
   refine⟨(Pl.qh5 b 58 (by omega)).trans (by rw[beq_iff_eq];exact q),?_⟩;exact Decidable.byContradiction fun r=>Hb ⟨q,r⟩
  ·left;exact(Pl.qh5 b 58 (by omega)).trans (by rw[beq_eq_false_iff_ne];exact q)
 clear ha Ha hb Hb;rcases e58 with e58|⟨e58,rfl⟩
 ·by_cases h2:f=2
  ·have HV:Hid (Pl.qcq f b=3):=by show _=_;rw[hF,if_pos h2]
   clear hF;subst h2;go_enter Tryz.func173,Tryz.ntmps173
   go_wp2
   go_ret
   exact⟨qan (by rw[HV.out]),rfl⟩
  ·have HV:Hid (Pl.qcq f b=f):=by show _=_;rw[hF,if_neg h2]
   have Hc:(f==2)=false:=beq_eq_false_iff_ne.2 h2;clear hF h2;go_enter Tryz.func173,Tryz.ntmps173
   go_wp2
   go_ret
   exact⟨qan (by rw[HV.out]),rfl⟩
 ·have HV:Hid (Pl.qcq 4 b=4):=by show _=_;rw[hF];rfl
  clear hF;go_enter Tryz.func173,Tryz.ntmps173
  go_wp2
  go_ret
  exact⟨qan (by rw[HV.out]),rfl⟩
theorem q4t(n:List UInt8):Pl.qco n=if(Pl.qd3==n)=true then 1 else if(Pl.qgp==n)=true then 2 else if(Pl.qct==n)=true then 3 else if(Pl.qcw==n)=true then 4 else 0:=by
 have e:∀l:List UInt8,(n=l)=((l==n)=true):=fun l=>propext (by rw[beq_iff_eq];exact eq_comm);unfold Pl.qco;simp only[e]
def qgt:Obj:=.cells #[.string ⟨#[116,105,116,108,101]⟩,.string ⟨#[116,101,120,116,97,114,101,97]⟩,.string ⟨#[115,99,114,105,112,116]⟩,.string ⟨#[115,116,121,108,101]⟩] 9
theorem qs7(n:List UInt8)(w:World) :
  Calls Tryz.prog 65 #[.string ⟨n.toArray⟩] w fun e w'=>e=.returned (.int .i64 (Pl.qco n:Nat))/\w.alloc qgt=w':=by
 have HE:=hd (q4t n);unfold qgt;go_enter Tryz.func65,Tryz.ntmps65
 go_wp2
 go_loop [4] (fun i=>∃k:Nat,k<=4/\i=.int .i64 k/\(1<=k->(Pl.qd3==n)=false)/\(2<=k->(Pl.qgp==n)=false)/\(3<=k->(Pl.qct==n)=false)/\(4<=k->(Pl.qcw==n)=false)) (fun i=>4 - (intOf i).toNat)
 case atStart=>exact⟨0,by omega,rfl,by omega,by omega,by omega,by omega⟩
 case round=>
  obtain⟨k,hk,rfl,h1,h2,h3,h4⟩:=hrel;have H1:Hid (1<=k->(Pl.qd3==n)=false):=h1;have H2:Hid (2<=k->(Pl.qgp==n)=false):=h2;have H3:Hid (3<=k->(Pl.qct==n)=false):=h3;have H4:Hid (4<=k->(Pl.qcw==n)=false):=h4;clear h1 h2 h3 h4;rcases(show k=0\/k=1\/k=2\/k=3\/k=4 by omega)with rfl|rfl|rfl|rfl|rfl
  ·by_cases hq:([116,105,116,108,101]==n)=true
   ·have HV:Hid (Pl.qco n=1):=by show _=_;rw[HE.out,if_pos (show(Pl.qd3==n)=true from hq)]
    go_wp2
    go_ret
    exact⟨qan (by rw[HV.out];rfl),rfl⟩
   ·have hq:=Bool.eq_false_iff.2 hq
    have HQ:Hid ((Pl.qd3==n)=false):=hq;go_wp2
    go_round
    case rel=>exact⟨1,by omega,rfl,fun _=>HQ.out,by omega,by omega,by omega⟩
    case measure=>simp[intOf]
  ·by_cases hq:([116,101,120,116,97,114,101,97]==n)=true
   ·have HV:Hid (Pl.qco n=2):=by show _=_;rw[HE.out,H1.out (by omega),if_neg (by simp),if_pos (show(Pl.qgp==n)=true from hq)]
    go_wp2
    go_ret
    exact⟨qan (by rw[HV.out];rfl),rfl⟩
   ·have hq:=Bool.eq_false_iff.2 hq
    have HQ:Hid ((Pl.qgp==n)=false):=hq;go_wp2
    go_round
    case rel=>exact⟨2,by omega,rfl,fun _=>H1.out (by omega),fun _=>HQ.out,by omega,by omega⟩
    case measure=>simp[intOf]
  ·by_cases hq:([115,99,114,105,112,116]==n)=true
   ·have HV:Hid (Pl.qco n=3):=by show _=_;rw[HE.out,H1.out (by omega),if_neg (by simp),H2.out (by omega),if_neg (by simp),if_pos (show(Pl.qct==n)=true from hq)]
    go_wp2
    go_ret
    exact⟨qan (by rw[HV.out];rfl),rfl⟩
   ·have hq:=Bool.eq_false_iff.2 hq
    have HQ:Hid ((Pl.qct==n)=false):=hq;go_wp2
    go_round
    case rel=>exact⟨3,by omega,rfl,fun _=>H1.out (by omega),fun _=>H2.out (by omega),fun _=>HQ.out,by omega⟩
    case measure=>simp[intOf]
  ·by_cases hq:([115,116,121,108,101]==n)=true
   ·have HV:Hid (Pl.qco n=4):=by show _=_;rw[HE.out,H1.out (by omega),if_neg (by simp),H2.out (by omega),if_neg (by simp),H3.out (by omega),if_neg (by simp),if_pos (show(Pl.qcw==n)=true from hq)]
    go_wp2
    go_ret
    exact⟨qan (by rw[HV.out];rfl),rfl⟩
   ·have hq:=Bool.eq_false_iff.2 hq
    have HQ:Hid ((Pl.qcw==n)=false):=hq;go_wp2
    go_round
    case rel=>exact⟨4,by omega,rfl,fun _=>H1.out (by omega),fun _=>H2.out (by omega),fun _=>H3.out (by omega),fun _=>HQ.out⟩
    case measure=>simp[intOf]
  ·have HV:Hid (Pl.qco n=0):=by show _=_;rw[HE.out,H1.out (by omega),if_neg (by simp),H2.out (by omega),if_neg (by simp),H3.out (by omega),if_neg (by simp),H4.out (by omega),if_neg (by simp)]
   go_wp2
   go_ret
   exact⟨qan (by rw[HV.out];rfl),rfl⟩
theorem qvl(n:List UInt8):(Pl.qco n=0/\Pl.qaw n=1)\/(Pl.qco n=1/\Pl.qaw n=19)\/(Pl.qco n=2/\Pl.qaw n=19)\/(Pl.qco n=3/\Pl.qaw n=20)\/(Pl.qco n=4/\Pl.qaw n=28):=by
 unfold Pl.qco Pl.qaw;by_cases h1:n=Pl.qd3
 ·rw[if_pos h1,if_pos h1];simp
 rw[if_neg h1,if_neg h1];by_cases h2:n=Pl.qgp
 ·rw[if_pos h2,if_pos h2];simp
 rw[if_neg h2,if_neg h2];by_cases h3:n=Pl.qct
 ·rw[if_pos h3,if_pos h3];simp
 rw[if_neg h3,if_neg h3];by_cases h4:n=Pl.qcw
 ·rw[if_pos h4,if_pos h4];simp
 rw[if_neg h4,if_neg h4];simp
theorem q34(n:List UInt8)(w:World) :
  Calls Tryz.prog 171 #[.string ⟨n.toArray⟩] w fun e w'=>e=.returned (.int .i64 (Pl.qaw n:Nat))/\Below w.heap.size w w':=by
 have hE:=fun w=>qs7 n w;have hC:=qvl n;generalize Pl.qaw n=c at hC |-;generalize Pl.qco n=k at hC hE;unfold qgt at hE;rcases hC with⟨rfl,rfl⟩|⟨rfl,rfl⟩|⟨rfl,rfl⟩|⟨rfl,rfl⟩|⟨rfl,rfl⟩
 all_goals
  have HE:=hd hE;clear hE;go_enter Tryz.func171,Tryz.ntmps171
  go_wp2_with (go_at_call 65;refine(HE.out _).mono ?_;rintro e w' ⟨rfl,rfl⟩)
  go_ret
  exact⟨rfl,by repeat(first|exact Below.refl _ _|refine Below.alloc ?_ (by simp<;>omega) _|apply Below.drew)⟩
variable{w:World}{g n:Nat}{p:Pl.Sp}{l e:List UInt8}
def qag(p:Pl.Sp):Array Value:=#[.int .i64 p.mode,.string ⟨p.tag.toArray⟩,.string ⟨p.attr.toArray⟩,.string ⟨p.inside.toArray⟩,.string ⟨p.run.toArray⟩,.int .i64 p.far]
def qau(p:Pl.Sp):Value:=.agg (qag p)
structure SpAt(w:World)(g:Nat)(p:Pl.Sp):Prop where
 mode:w.cell? ⟨g,0,none⟩=some (.int .i64 p.mode)
 tag:w.cell? ⟨g,1,none⟩=some (.string ⟨p.tag.toArray⟩)
 attr:w.cell? ⟨g,2,none⟩=some (.string ⟨p.attr.toArray⟩)
 inside:w.cell? ⟨g,3,none⟩=some (.string ⟨p.inside.toArray⟩)
 run:w.cell? ⟨g,4,none⟩=some (.string ⟨p.run.toArray⟩)
 far:w.cell? ⟨g,5,none⟩=some (.int .i64 p.far)
theorem q8l{t:TypeId}{fz:Nat×Nat}(h:w.heap[g]?=some (.cells (qag p) t fz)):SpAt w g p:=
 ⟨qaa h 0 _ rfl,qaa h 1 _ rfl,qaa h 2 _ rfl,qaa h 3 _ rfl,qaa h 4 _ rfl,qaa h 5 _ rfl⟩
theorem qql(w:World)(p:Pl.Sp)(t:TypeId):SpAt (w.alloc (.cells (qag p) t)) w.heap.size p:=q8l (heap_alloc_new w _)
theorem SpAt.kept{w':World}{B:Nat}(h:SpAt w g p)(hb:Below B w w')(hB:g<B):SpAt w' g p:=
 ⟨(hb.cell (p:=⟨g,0,none⟩) hB).trans h.mode,(hb.cell (p:=⟨g,1,none⟩) hB).trans h.tag,(hb.cell (p:=⟨g,2,none⟩) hB).trans h.attr,(hb.cell (p:=⟨g,3,none⟩) hB).trans h.inside,(hb.cell (p:=⟨g,4,none⟩) hB).trans h.run,(hb.cell (p:=⟨g,5,none⟩) hB).trans h.far⟩
def qi2(l e:List UInt8)(k i:Nat):Bool:=((l.drop k).take i).map Pl.qcr==e.take i
theorem qww(l e:List UInt8)(k i:Nat)(hl:k+i<l.length)(he:i<e.length):qi2 l e k (i+1)=(qi2 l e k i && Pl.qcr l[k+i]==e[i]):=by
 unfold qi2;rw[List.take_succ_eq_append_getElem (by rw[List.length_drop];omega),List.take_succ_eq_append_getElem he,List.map_append,List.getElem_drop];rw[Bool.eq_iff_iff,beq_iff_eq,Bool.and_eq_true,beq_iff_eq,beq_iff_eq];constructor
 ·intro h
  have:=List.append_inj h (by rw[List.length_map,List.length_take,List.length_take,List.length_drop];omega);exact⟨this.1,by simpa using this.2⟩
 ·rintro⟨h1,h2⟩
  rw[h1,<-h2];rfl
theorem q8s(h:l.length<n+1):Pl.qbp l e (n+1)=Pl.qbp l e n:=by
 show(if Pl.qf5 l e (n+1)=true then _ else _)=_;rw[if_neg];unfold Pl.qf5;simp;omega
theorem zal(h:n+1<=l.length)(hs:qi2 l e (l.length - (n+1)) (n+1)=true):Pl.qbp l e (n+1)=n+1:=by
 show(if Pl.qf5 l e (n+1)=true then _ else _)=_;rw[if_pos];unfold Pl.qf5;unfold qi2 at hs;rw[List.take_of_length_le (by rw[List.length_drop];omega)]at hs;rw[hs,decide_eq_true h];rfl
theorem q8t(h:n+1<=l.length)(hs:qi2 l e (l.length - (n+1)) (n+1)=false):Pl.qbp l e (n+1)=Pl.qbp l e n:=by
 show(if Pl.qf5 l e (n+1)=true then _ else _)=_;rw[if_neg];unfold Pl.qf5;unfold qi2 at hs;rw[List.take_of_length_le (by rw[List.length_drop];omega)]at hs;rw[hs,Bool.and_false];simp
theorem qyx(p:Pl.Sp)(w:World)(ht:p.tag.length<=1000)(hi:p.inside.length<=1000) :
  Calls Tryz.prog 66 #[qau p] w fun e w'=>e=.returned (.int .i64 (p.read:Nat))/\Below w.heap.size w w':=by
 have Hc:(ByteArray.mk p.tag.toArray).size=p.tag.length:=by simp[ByteArray.size]
 have Hb:(ByteArray.mk p.inside.toArray).size=p.inside.length:=by simp[ByteArray.size]
 have hE:(ByteArray.mk #[60,47]++ByteArray.mk p.tag.toArray)=⟨(Pl.qcm p.tag).toArray⟩:=by apply ByteArray.ext;simp[Pl.qcm]
 have he:(Pl.qcm p.tag).length<=1002:=by simp[Pl.qcm];omega
 have He:(ByteArray.mk (Pl.qcm p.tag).toArray).size=(Pl.qcm p.tag).length:=by simp[ByteArray.size]
 have HV:Hid (p.read=Pl.qbp p.inside (Pl.qcm p.tag) (Pl.qcm p.tag).length):=rfl;generalize p.read=R at HV |-;unfold qau qag;have ha:=qql w p 94;unfold qag at ha;go_enter Tryz.func66,Tryz.ntmps66
 go_wp2_with fail
 clear hE;generalize Pl.qcm p.tag=E at HV he He |-;have hq:=ha.inside;generalize p.inside=L at Hb hi HV hq |-;have hb:Below w.heap.size w (w.alloc (.cells #[.int .i64 p.mode,.string ⟨p.tag.toArray⟩,.string ⟨p.attr.toArray⟩,.string ⟨L.toArray⟩,.string ⟨p.run.toArray⟩,.int .i64 p.far] 94)):=ba _;generalize (w.alloc _)=W at hq hb |-;generalize hG:w.heap.size=G at hq |-;clear Hc ht ha;go_loopw [4] (fun i wr=>∃n:Nat,n<=E.length/\i=.int .i64 n/\Hid (R=Pl.qbp L E n)/\∃m,wr=W.drewN m) (fun i _=>(intOf i).toNat)
 case atStart=>exact⟨E.length,Nat.le_refl _,rfl,HV,0,rfl⟩
 case round=>
  obtain⟨n,hn,rfl,HN,m,rfl⟩:=hrel;clear HV
  match n,hn with
  |0,_=>
    go_wp2
    go_ret
    exact⟨qan (by rw[HN.out];rfl),qay hb _⟩
  |n+1,hn=>
    have c1:(0:Int)<(n:Int)+1:=by omega
    have cc:((n+1:Nat):Int)=(n:Int)+1:=by omega
    rw[cc];by_cases hf:L.length<n+1
    ·have d1:(L.length:Int) - ((n:Int)+1)<0:=by omega
     have d0:(n:Int)+1 - 1=(n:Int):=by omega
     go_wp2_with fail
     go_roundw
     case rel=>
      refine⟨n,by omega,rfl,?_,m,rfl⟩;show _=_;rw[HN.out,q8s hf]
     case measure=>simp[intOf]
    ·have d1:decide ((L.length:Int) - ((n:Int)+1)<0)=false:=by rw[decide_eq_false_iff_not];omega
     have d0:(n:Int)+1 - 1=(n:Int):=by omega
     go_wp2_with fail
     obtain⟨K,hK⟩:∃K,L.length=K+(n+1):=⟨L.length - (n+1),by omega⟩;have eK:(L.length:Int) - ((n:Int)+1)=(K:Int):=by omega
     have hc:L.length - (n+1)=K:=by omega
     rw[eK];clear d1 eK;have HK:=hd hK;clear hK;go_hide hQ
     have HQ:=hd hQ;clear hQ;go_loopw [6,7] (fun sm i wr=>∃i':Nat,i'<=n+1/\i=.int .i64 i'/\sm=.bool (qi2 L E K i')/\Hid (∃m',wr=W.drewN m')) (fun _ i _=>n+1 - (intOf i).toNat)
     case atStart=>exact⟨0,Nat.zero_le _,rfl,by simp[qi2],⟨m,rfl⟩⟩
     case round=>
      obtain⟨i',hg,rfl,rfl,HW⟩:=hrel;have Hg:wr.cell? ⟨G,3,none⟩=some (.string ⟨L.toArray⟩):=by obtain⟨m',e⟩:=HW.out;rw[e];exact hq
      have Hf:Below w.heap.size w wr:=by obtain⟨m',e⟩:=HW.out;rw[e];exact qay hb _
      by_cases Hi:i'<n+1
      ·have Ha:(i':Int)<(n:Int)+1:=by omega
       have l1:K+i'<L.length:=by have:=HK.out;omega
       have l2:i'<E.length:=by omega
       have HS:=hd (qww L E K i' l1 l2);by_cases hs:qi2 L E K i'=true
       ·have b1:(K:Int)+(i':Int)<(L.length:Int):=by omega
        have b2:(0:Int)<=(K:Int)+(i':Int):=by omega
        have b3:((K:Int)+(i':Int)).toNat=K+i':=by omega
        have b4:(i':Int)<(E.length:Int):=by omega
        have b5:K+i'<=1000:=by omega
        have b6:i'<=1002:=by omega
        have bw:IntKind.i64.wrap ((K:Int)+(i':Int))=(K:Int)+(i':Int):=by rw[IntKind.wrap_i64];omega
        rw[hs];have HB:=hd hs;clear hs;go_wp2_with fail
        go_quiet ((go_at_call 101;refine qqr (qgw ((ByteArray.mk L.toArray)[K+i']'(by rw[Hb];exact l1)) _)))
        go_wp2
        go_roundw
        case rel=>exact⟨i'+1,by omega,by go_num,by rw[HS.out,HB.out,Bool.true_and];exact congrArg Value.bool (Pl.beq8 _ _),by obtain⟨m',e⟩:=HW.out;exact⟨m'+nq,by rw[e];simp[World.drewN,Nat.add_assoc]⟩⟩
        case measure=>simp[intOf];omega
       ·have hs:=Bool.eq_false_iff.2 hs
        rw[hs];have HB:=hd hs;clear hs;go_wp2_with fail
        go_quiet (fail)
        go_wp2
        go_roundw
        case rel=>exact⟨i'+1,by omega,by go_num,by rw[HS.out,HB.out];rfl,by obtain⟨m',e⟩:=HW.out;exact⟨m'+nq,by rw[e];simp[World.drewN,Nat.add_assoc]⟩⟩
        case measure=>simp[intOf];omega
      ·have Ha:decide ((i':Int)<(n:Int)+1)=false:=by rw[decide_eq_false_iff_not];omega
       obtain rfl:i'=n+1:=by omega
       by_cases hs:qi2 L E K (n+1)=true
       ·have HF:Hid (R=n+1):=by show _=_;rw[HN.out];exact zal (by have:=HK.out;omega) (by rw[hc];exact hs)
        rw[hs];clear hs;go_wp2_with fail
        rw[<-HQ.out];go_wp2_with fail
        go_ret
        exact⟨qan (by rw[HF.out];rfl),Hf⟩
       ·have hs:=Bool.eq_false_iff.2 hs
        have HF:Hid (R=Pl.qbp L E n):=by show _=_;rw[HN.out];exact q8t (by have:=HK.out;omega) (by rw[hc];exact hs)
        rw[hs];clear hs;go_wp2_with fail
        rw[<-HQ.out];go_wp2_with fail
        go_roundw
        case rel=>exact⟨n,by omega,rfl,HF,HW.out⟩
        case measure=>simp[intOf]
variable{n:List UInt8}
theorem pre2(n:List UInt8)(h:2<=n.length):(n.take 2==[111,110])=true↔[111,110] <+: n:=by
 rw[beq_iff_eq];constructor
 ·intro q
  rw[<-q];exact List.take_prefix _ _
 ·rintro⟨t,rfl⟩;rfl
theorem qss(h:(n==[115,116,121,108,101])=true):Pl.qbt n=3:=by
 rw[beq_iff_eq]at h;unfold Pl.qbt;rw[if_pos (.inl h)]
theorem q1e(h:[111,110] <+: n):Pl.qbt n=3:=by unfold Pl.qbt;rw[if_pos (.inr h)]
theorem qdw(h:(n==[115,116,121,108,101])=false)(h':¬ [111,110] <+: n):Pl.qbt n=if n=[104,114,101,102]\/n=[115,114,99]\/n=[97,99,116,105,111,110]then 2 else 1:=by
 rw[beq_eq_false_iff_ne]at h;unfold Pl.qbt;rw[if_neg (fun q=>q.elim h h')]
theorem q6o(n:List UInt8)(w:World)(hn:n.length<=1000) :
  Calls Tryz.prog 67 #[.string ⟨n.toArray⟩] w fun e w'=>e=.returned (.int .i64 (Pl.qbt n))/\w=w':=by
 have hz:(ByteArray.mk n.toArray).size=n.length:=by simp[ByteArray.size]
 by_cases h1:(n==[115,116,121,108,101])=true
 ·have HV:Hid (Pl.qbt n=3):=qss h1
  go_enter Tryz.func67,Tryz.ntmps67
  go_wp2
  go_ret
  exact⟨qan (by rw[HV.out]),rfl⟩
 ·have h1:=Bool.eq_false_iff.2 h1
  by_cases h2:1<n.length
  ·have ha:(1:Int)<(n.length:Int):=by omega
   have he:(ByteArray.mk n.toArray).extract 0 2=⟨(n.take 2).toArray⟩:=Pl.extract_take _ _;by_cases h3:(n.take 2==[111,110])=true
   ·have HV:Hid (Pl.qbt n=3):=q1e ((pre2 n (by omega)).1 h3)
    go_enter Tryz.func67,Tryz.ntmps67
    go_wp2_with fail
    go_ret
    exact⟨qan (by rw[HV.out]),rfl⟩
   ·have HP:=hd (fun q=>h3 ((pre2 n (by omega)).2 q))
    have h3:=Bool.eq_false_iff.2 h3;by_cases a1:(n==[104,114,101,102])=true
    ·have HV:Hid (Pl.qbt n=2):=by show _=_;rw[qdw h1 HP.out,if_pos (.inl (beq_iff_eq.1 a1))]
     go_enter Tryz.func67,Tryz.ntmps67
     go_wp2_with fail
     go_ret
     exact⟨qan (by rw[HV.out]),rfl⟩
    ·have a1:=Bool.eq_false_iff.2 a1
     by_cases a2:(n==[115,114,99])=true
     ·have HV:Hid (Pl.qbt n=2):=by show _=_;rw[qdw h1 HP.out,if_pos (.inr (.inl (beq_iff_eq.1 a2)))]
      go_enter Tryz.func67,Tryz.ntmps67
      go_wp2_with fail
      go_ret
      exact⟨qan (by rw[HV.out]),rfl⟩
     ·have a2:=Bool.eq_false_iff.2 a2
      by_cases a3:(n==[97,99,116,105,111,110])=true
      ·have HV:Hid (Pl.qbt n=2):=by show _=_;rw[qdw h1 HP.out,if_pos (.inr (.inr (beq_iff_eq.1 a3)))]
       go_enter Tryz.func67,Tryz.ntmps67
       go_wp2_with fail
       go_ret
       exact⟨qan (by rw[HV.out]),rfl⟩
      ·have a3:=Bool.eq_false_iff.2 a3
       have HV:Hid (Pl.qbt n=1):=by show _=_;rw[qdw h1 HP.out,if_neg (fun q=>q.elim (fun z=>by rw[beq_iff_eq.2 z]at a1;cases a1) (fun q=>q.elim (fun z=>by rw[beq_iff_eq.2 z]at a2;cases a2) (fun z=>by rw[beq_iff_eq.2 z]at a3;cases a3)))]
       go_enter Tryz.func67,Tryz.ntmps67
       go_wp2_with fail
       go_ret
       exact⟨qan (by rw[HV.out]),rfl⟩
  ·have ha:decide ((1:Int)<(n.length:Int))=false:=by rw[decide_eq_false_iff_not];omega
   have HP:Hid (¬ [111,110] <+: n):=by
    intro q;have:=q.length_le;simp at this;omega
   by_cases a1:(n==[104,114,101,102])=true
   ·have HV:Hid (Pl.qbt n=2):=by show _=_;rw[qdw h1 HP.out,if_pos (.inl (beq_iff_eq.1 a1))]
    go_enter Tryz.func67,Tryz.ntmps67
    go_wp2_with fail
    go_ret
    exact⟨qan (by rw[HV.out]),rfl⟩
   ·have a1:=Bool.eq_false_iff.2 a1
    by_cases a2:(n==[115,114,99])=true
    ·have HV:Hid (Pl.qbt n=2):=by show _=_;rw[qdw h1 HP.out,if_pos (.inr (.inl (beq_iff_eq.1 a2)))]
     go_enter Tryz.func67,Tryz.ntmps67
     go_wp2_with fail
     go_ret
     exact⟨qan (by rw[HV.out]),rfl⟩
    ·have a2:=Bool.eq_false_iff.2 a2
     by_cases a3:(n==[97,99,116,105,111,110])=true
     ·have HV:Hid (Pl.qbt n=2):=by show _=_;rw[qdw h1 HP.out,if_pos (.inr (.inr (beq_iff_eq.1 a3)))]
      go_enter Tryz.func67,Tryz.ntmps67
      go_wp2_with fail
      go_ret
      exact⟨qan (by rw[HV.out]),rfl⟩
     ·have a3:=Bool.eq_false_iff.2 a3
      have HV:Hid (Pl.qbt n=1):=by show _=_;rw[qdw h1 HP.out,if_neg (fun q=>q.elim (fun z=>by rw[beq_iff_eq.2 z]at a1;cases a1) (fun q=>q.elim (fun z=>by rw[beq_iff_eq.2 z]at a2;cases a2) (fun z=>by rw[beq_iff_eq.2 z]at a3;cases a3)))]
      go_enter Tryz.func67,Tryz.ntmps67
      go_wp2_with fail
      go_ret
      exact⟨qan (by rw[HV.out]),rfl⟩
theorem qy1(l:List UInt8)(b:UInt8):Pl.qha (l++[b])=if b=37 then 2 else Pl.pct1 b l.reverse:=by
 unfold Pl.qha;rw[List.reverse_append];rfl
theorem qre(s:ByteArray)(K:Nat)(h:s.size=K+1):s.data.toList=s.data.toList.take K++[s[K]'(by omega)]:=by
 rw[<-Pl.qc9 s K (by omega),Pl.qeu s (K+1) (by omega)]
theorem qud(w:World)(s:ByteArray)(h:s.size=0) :
  Calls Tryz.prog 71 #[.string s] w fun e w'=>e=.returned (.int .i64 (Pl.qha s.data.toList))/\w=w':=by
 have HV:Hid (Pl.qha s.data.toList=0):=by
  have:s.data.toList=[]:=List.eq_nil_of_length_eq_zero (by simpa using h);show _=_;rw[this];rfl
 have h1:(s.size:Int)=0:=by omega
 go_enter Tryz.func71,Tryz.ntmps71
 go_wp2
 go_ret
 exact⟨qan (by rw[HV.out]),rfl⟩
theorem qxa(w:World)(s:ByteArray)(h:s.size=1) :
  Calls Tryz.prog 71 #[.string s] w fun e w'=>e=.returned (.int .i64 (Pl.qha s.data.toList))/\w=w':=by
 have HV:Hid (Pl.qha s.data.toList=if s[0]=37 then 2 else 0):=by
  have:=qre s 0 (by omega);show _=_;rw[this,qy1];simp[Pl.pct1]
 have h1:(s.size:Int)=1:=by omega
 by_cases hb:s[0]=37
 ·have ha:((s[0].toNat:Int)==37)=true:=by rw[hb];rfl
  rw[if_pos hb]at HV;clear hb;go_enter Tryz.func71,Tryz.ntmps71
  go_wp2
  go_ret
  exact⟨qan (by rw[HV.out]),rfl⟩
 ·have ha:((s[0].toNat:Int)==37)=false:=(Pl.qh5 s[0] 37 (by omega)).trans (beq_eq_false_iff_ne.2 hb)
  rw[if_neg hb]at HV;clear hb;go_enter Tryz.func71,Tryz.ntmps71
  go_wp2
  go_ret
  exact⟨qan (by rw[HV.out]),rfl⟩
theorem que(w:World)(s:ByteArray)(K:Nat)(h:s.size=K+2)(hs:s.size<=4000000000000000000) :
  Calls Tryz.prog 71 #[.string s] w fun e w'=>e=.returned (.int .i64 (Pl.qha s.data.toList))/\w=w':=by
 have HV:Hid (Pl.qha s.data.toList=if s[K+1]=37 then 2 else if s[K]=37/\Pl.among s[K+1] Pl.qa2=true then 1 else 0):=by
  have a:=qre s (K+1) (by omega);have b:=Pl.qc9 s K (by omega);show _=_;rw[a,qy1,b,List.reverse_append];rfl
 have d1:(s.size:Int) - 1=((K+1:Nat):Int):=by omega
 have d2:(s.size:Int) - 2=(K:Int):=by omega
 have p0:(0:Int)<(s.size:Int):=by omega
 have p1:(1:Int)<(s.size:Int):=by omega
 have Hb:K+1<s.size:=by omega
 have hk:K<s.size:=by omega
 have Hc:K+1<=4000000000000000000:=by omega
 by_cases hb:s[K+1]=37
 ·have ha:((s[K+1].toNat:Int)==37)=true:=by rw[hb];rfl
  rw[if_pos hb]at HV;clear hb;go_enter Tryz.func71,Tryz.ntmps71
  go_wp2_with fail
  go_ret
  exact⟨qan (by rw[HV.out]),rfl⟩
 ·have ha:((s[K+1].toNat:Int)==37)=false:=(Pl.qh5 s[K+1] 37 (by omega)).trans (beq_eq_false_iff_ne.2 hb)
  rw[if_neg hb]at HV;clear hb;by_cases hc:s[K]=37
  ·have Ha:((s[K].toNat:Int)==37)=true:=by rw[hc];rfl
   cases hx:Pl.among s[K+1] Pl.qa2
   ·rw[hx,if_neg (by simp)]at HV
    clear hc;go_enter Tryz.func71,Tryz.ntmps71
    go_wp2_with (go_at_call 80;refine(qdx s[K+1] _ Pl.qa2 _ rfl (by decide)).mono ?_;rintro e w' ⟨rfl,rfl⟩;rw[hx])
    go_ret
    exact⟨qan (by rw[HV.out]),rfl⟩
   ·rw[hx,if_pos ⟨hc,rfl⟩]at HV
    clear hc;go_enter Tryz.func71,Tryz.ntmps71
    go_wp2_with (go_at_call 80;refine(qdx s[K+1] _ Pl.qa2 _ rfl (by decide)).mono ?_;rintro e w' ⟨rfl,rfl⟩;rw[hx])
    go_ret
    exact⟨qan (by rw[HV.out]),rfl⟩
  ·have Ha:((s[K].toNat:Int)==37)=false:=(Pl.qh5 s[K] 37 (by omega)).trans (beq_eq_false_iff_ne.2 hc)
   rw[if_neg (fun q=>hc q.1)]at HV;clear hc;go_enter Tryz.func71,Tryz.ntmps71
   go_wp2_with fail
   go_ret
   exact⟨qan (by rw[HV.out]),rfl⟩
theorem qxb(s:ByteArray)(w:World)(hs:s.size<=4000000000000000000) :
  Calls Tryz.prog 71 #[.string s] w fun e w'=>e=.returned (.int .i64 (Pl.qha s.data.toList))/\w=w':=by
 by_cases h0:s.size=0
 ·exact qud w s h0
 by_cases h1:s.size=1
 ·exact qxa w s h1
 ·exact que w s (s.size - 2) (by omega) hs
end Go.Proofs.YtfkhljmiehdgmaaGreatDoor
namespace Go.Proofs.YtfkhljmiehdgmaaGreatDoor.Pl
variable{t:List UInt8}{c d:Ct}{a:Nat}
theorem q41(t:List UInt8):∀(n m:Nat) (c:Ct) (a:Nat),CtOk t c a->t.length - a<n->t.length - a<m->Ct.go t n c a=Ct.go t m c a:=by
 intro n
 induction n with
 |zero=>intro m c a _ h _;omega
 |succ n ih=>
   intro m c a hc hn hm;obtain⟨m,rfl⟩:∃k,m=k+1:=⟨m - 1,by omega⟩;unfold Ct.go;cases hs:c.step t a with
   |slip k p=>rfl
   |over d=>rfl
   |next d b=>
     obtain⟨h1,h2⟩:=qga hc hs;have:=h1.le;exact ih m d b h1 (by omega) (by omega)
def Ct.rest(t:List UInt8)(c:Ct)(a:Nat):(Nat×Nat)×List Pt:=Ct.go t (t.length - a+1) c a
theorem qoq{b:Nat}(h:CtOk t c a)(hs:c.step t a=.next d b):c.rest t a=d.rest t b:=by
 obtain⟨h1,h2⟩:=qga h hs;have:=h1.le;unfold Ct.rest;have e:Ct.go t (t.length - a+1) c a=Ct.go t (t.length - a) d b:=by
  conv=>lhs;unfold Ct.go
  rw[hs]
 rw[e];exact q41 t _ _ d b h1 (by omega) (by omega)
theorem qer{k p:Nat}(hs:c.step t a=.slip k p):c.rest t a=((k,p),[]):=by
 unfold Ct.rest Ct.go;rw[hs]
theorem qt8(hs:c.step t a=.over d):c.rest t a=(d.left,d.parts):=by
 unfold Ct.rest Ct.go;rw[hs]
theorem qpi(t:List UInt8)(h:t.length<=2000):qam t=if(Ct.start.rest t 0).1.1=0 then((0,0),(Ct.start.rest t 0).2)else((Ct.start.rest t 0).1,[]):=by
 unfold qam Ct.rest;rw[if_neg (by omega)];rfl
theorem qlc(h:(Go.Lib.cut (t.drop a) c.op).2.2=false):c.step t a=.over (c.addText t a t.length):=by
 unfold Ct.step;rw[if_pos h]
theorem qgm(h:(Go.Lib.cut (t.drop a) c.op).2.2=true)(h2:(Go.Lib.cut (Go.Lib.cut (t.drop a) c.op).2.1 c.cl).2.2=false):c.step t a=.slip 2 (a+(Go.Lib.cut (t.drop a) c.op).1.length):=by
 unfold Ct.step;rw[if_neg (by rw[h];simp)];simp only[h2,if_true]
theorem qnq(h:(Go.Lib.cut (t.drop a) c.op).2.2=true)(h2:(Go.Lib.cut (Go.Lib.cut (t.drop a) c.op).2.1 c.cl).2.2=true)(one:Tg)(h1:qa9 (Go.Lib.trimS (Go.Lib.cut (Go.Lib.cut (t.drop a) c.op).2.1 c.cl).1 qah)=one)
  (p tz:Nat) (hp:a+(Go.Lib.cut (t.drop a) c.op).1.length=p) (ha:p+c.op.length+(Go.Lib.cut (Go.Lib.cut (t.drop a) c.op).2.1 c.cl).1.length+c.cl.length=tz) (o:Nat×Nat) (ho:(if one.kind≠2 then qeg t p tz else(p,tz))=o) :
  c.step t a=if((c.addText t a o.1).take one p).1≠0 then .slip ((c.addText t a o.1).take one p).1 p else .next ((c.addText t a o.1).take one p).2 o.2:=by
 subst ho ha hp h1;unfold Ct.step;rw[if_neg (by rw[h];simp)];simp only[h2,Bool.true_eq_false,if_false]
variable{o:Nat}{l:List Pt}
def stk:List Pt->List Nat->List Nat
 |[],st=>st
 |p::l,st=>if p.kind=3\/p.kind=4 then stk l (p.mate::st)else if p.kind=5 then stk l st.tail else stk l st
theorem qf0(p:Pt)(l:List Pt)(st:List Nat):stk (p::l) st=if p.kind=3\/p.kind=4 then stk l (p.mate::st)else if p.kind=5 then stk l st.tail else stk l st:=rfl
theorem qgq(l m:List Pt):∀st,stk (l++m) st=stk m (stk l st):=by
 induction l with
 |nil=>intro st;rfl
 |cons p l ih=>
   intro st;rw[List.cons_append,qf0,qf0];split
   ·exact ih _
   ·split
    ·exact ih _
    ·exact ih _
theorem zab(h:Wf o l):(∀st,stk l st=st)/\∀i,i<=l.length->∀st,∃ex,stk (l.take i) st=ex++st/\(∀m∈ex,o+i<=m/\m<o+l.length)/\∀m tl,ex=m::tl->stk (l.take (m - o)) st=ex++st:=by
 induction h with
 |nil o=>exact⟨fun st=>rfl,fun i hi st=>⟨[],by simp[stk],fun m hm=>(by cases hm),fun m tl e=>(by cases e)⟩⟩
 |leaf o p l hk _ ih=>
   have hs:∀l st,stk (p::l) st=stk l st:=fun l st=>by
    rw[qf0,if_neg (by omega),if_neg (by omega)]
   refine⟨fun st=>by rw[hs];exact ih.1 st,fun i hi st=>?_⟩;cases i with
   |zero=>exact⟨[],rfl,fun m hm=>(by cases hm),fun m tl e=>(by cases e)⟩
   |succ i=>
     obtain⟨ex,h1,h2,h3⟩:=ih.2 i (by simpa using hi) st;refine⟨ex,by rw[List.take_succ_cons,hs];exact h1,fun m hm=>?_,fun m tl e=>?_⟩
     ·have:=h2 m hm
      simp only[List.length_cons];omega
     ·have hm:=h2 m (by rw[e];simp)
      rw[show m - o=(m - (o+1))+1 by omega,List.take_succ_cons,hs];exact h3 m tl e
 |sec o p q b l hp hq hm1 hm2 hb _ ihb ihl=>
   have e:p::b++q::l=p::(b++q::l):=by simp
   have hs:∀l st,stk (p::l) st=stk l (p.mate::st):=fun l st=>by
    rw[qf0,if_pos hp]
   have ha:∀l st,stk (q::l) st=stk l st.tail:=fun l st=>by
    rw[qf0,if_neg (by omega),if_pos hq]
   rw[e];refine⟨fun st=>?_,fun i hi st=>?_⟩
   ·rw[hs,qgq,ihb.1,ha]
    exact ihl.1 st
   ·cases i with
    |zero=>exact⟨[],rfl,fun m hm=>(by cases hm),fun m tl e=>(by cases e)⟩
    |succ j=>
      simp only[List.length_cons,List.length_append]at hi |-;rw[List.take_succ_cons,hs];by_cases hj:j<=b.length
      ·rw[List.take_append_of_le_length hj]
       obtain⟨ex,h1,h2,h3⟩:=ihb.2 j hj (p.mate::st);refine⟨ex++[p.mate],by rw[h1];simp,fun m hm=>?_,fun m tl e2=>?_⟩
       ·simp only[List.mem_append,List.mem_singleton]at hm
        rcases hm with hm|rfl
        ·have:=h2 m hm;omega
        ·omega
       ·cases ex with
        |nil=>
          simp only[List.nil_append,List.cons.injEq]at e2;obtain⟨rfl,_⟩:=e2;rw[show p.mate - o=b.length+1 by omega,List.take_succ_cons,hs,List.take_left,ihb.1];simp
        |cons m' tl'=>
          simp only[List.cons_append,List.cons.injEq]at e2;obtain⟨rfl,_⟩:=e2;have hm:=h2 m' (by simp);rw[show m' - o=(m' - (o+1))+1 by omega,List.take_succ_cons,hs,List.take_append_of_le_length (by omega),h3 m' tl' rfl];simp
      ·obtain⟨t,rfl⟩:∃t,j=b.length+1+t:=⟨j - (b.length+1),by omega⟩
       have ht:(b++q::l).take (b.length+1+t)=b++q::l.take t:=by
        rw[List.take_append];rw[List.take_of_length_le (by omega),show b.length+1+t - b.length=t+1 by omega,List.take_succ_cons]
       rw[ht,qgq,ihb.1,ha];simp only[List.tail_cons];obtain⟨ex,h1,h2,h3⟩:=ihl.2 t (by omega) st;refine⟨ex,h1,fun m hm=>?_,fun m tl e2=>?_⟩
       ·have:=h2 m hm;omega
       ·have hm:=h2 m (by rw[e2];simp)
        obtain⟨u,hu⟩:∃u,m - o=(b.length+1+u)+1:=⟨m - o - (b.length+2),by omega⟩;have Ha:(b++q::l).take (b.length+1+u)=b++q::l.take u:=by
         rw[List.take_append];rw[List.take_of_length_le (by omega),show b.length+1+u - b.length=u+1 by omega,List.take_succ_cons]
        rw[hu,List.take_succ_cons,hs,Ha,qgq,ihb.1,ha];simp only[List.tail_cons];have:=h3 m tl e2;rw[show m - (o+b.length+2)=u by omega]at this;exact this
theorem q8j(l:List Pt):∀st,(stk l st).length<=l.length+st.length:=by
 induction l with
 |nil=>intro st;simp[stk]
 |cons p l ih=>
   intro st;rw[qf0];split
   ·have:=ih (p.mate::st);simp only[List.length_cons]at this |-;omega
   ·split
    ·have:=ih st.tail;rw[List.length_tail]at this;simp only[List.length_cons];omega
    ·have:=ih st;simp only[List.length_cons];omega
theorem q7c(l m:List Pt):∀st,deep (l++m) st.length=true->deep m (stk l st).length=true:=by
 induction l with
 |nil=>intro st h;exact h
 |cons p l ih=>
   intro st h;have h:deep (p::(l++m)) st.length=true:=h;unfold deep at h;rw[qf0];by_cases h3:p.kind=3\/p.kind=4
   ·rw[if_pos h3]at h |-
    exact ih (p.mate::st) (by simpa using h)
   rw[if_neg h3]at h |-;by_cases h5:p.kind=5
   ·rw[if_pos h5]at h |-
    simp only[ne_eq,Bool.and_eq_true,decide_eq_true_eq]at h;exact ih st.tail (by simpa using h.2)
   ·rw[if_neg h5]at h |-
    exact ih st h
theorem q5h(h:Wf o l):∀(i:Nat) (p:Pt),l[i]?=some p->p.kind=5->p.mate<o+l.length/\o<=p.mate:=by
 induction h with
 |nil o=>intro i p hp;simp at hp
 |leaf o q l hk _ ih=>
   intro i p hp h5;cases i with
   |zero=>simp at hp;subst hp;omega
   |succ i=>
     have:=ih i p (by simpa using hp) h5;simp only[List.length_cons];omega
 |sec o q z b l hq hz h1 h2 hb _ ihb ihl=>
   intro i p hp h5;have e:q::b++z::l=q::(b++z::l):=by simp
   rw[e]at hp |-;simp only[List.length_cons,List.length_append];cases i with
   |zero=>simp at hp;subst hp;omega
   |succ i=>
     simp only[List.getElem?_cons_succ]at hp;rw[List.getElem?_append]at hp;split at hp
     ·have:=ihb i p hp h5;omega
     ·rename_i hi
      cases hx:i - b.length with
      |zero=>rw[hx]at hp;simp at hp;subst hp;omega
      |succ j=>
        rw[hx]at hp;have:=ihl j p (by simpa using hp) h5;omega
end Go.Proofs.YtfkhljmiehdgmaaGreatDoor.Pl
