/-
  Steps of the proof.
-/
import Derived.Shelf.Strings.SlTrimAscii
import Derived.Test.YtfkhljmiehdgmaaGreatDoorCmAW
import Derived.Test.YtfkhljmiehdgmaaGreatDoorCmAV
import Derived.Test.YtfkhljmiehdgmaaGreatDoorCmAM
set_option maxRecDepth 100000
set_option maxHeartbeats 40000000
namespace Go.Proofs.YtfkhljmiehdgmaaGreatDoor
open Go.RowKit
theorem q5d(w:World)(B g:Nat)(t:List UInt8)(c:Pl.Ct)(vp vo:Value)(h:CtAt w B g t c vp vo)(one:Pl.Tg)(ho:Pl.TgOk one)(a:Nat)(hn:c.parts.length≤4000)(h6:c.opened.length≤6)(hO:∀m∈c.opened,m<c.parts.length) :
  Calls Tryz.prog 152 #[.pointer (some ⟨g,0,none⟩),qea one,.int .i64 a] w fun e w'=>e=.returned (.int .i64 (c.take one a).1)∧CtTo w w' B g t (c.take one a).2:=by
 by_cases hs:one.slip≠0
 ·exact q2e w B g t c vp vo h one a hs
 obtain⟨kind,slip,n,op,cl⟩:=one;obtain rfl:slip=0:=by simpa using hs
 have hk:=ho.kind;simp only at hk;rcases(show kind=2∨kind=6∨kind=3∨kind=4∨kind=5∨kind=7∨kind=8 by omega)with rfl | rfl | rfl | rfl | rfl | rfl | rfl
 ·exact qtk w B g t c vp vo h 2 n op cl a (.inl rfl) hn
 ·exact qtk w B g t c vp vo h 6 n op cl a (.inr rfl) hn
 ·by_cases hf:c.opened.length=6
  ·have e:c.take ⟨3,0,n,op,cl⟩ a=(8,c):=by simp[Pl.Ct.take,hf]
   rw[e];exact qtl w B g t c vp vo h 3 n op cl a (.inl rfl) hf
  ·have e:c.take ⟨3,0,n,op,cl⟩ a=(0,{ c with parts:=c.parts++[⟨3,a,n,0⟩],opened:=c.opened++[c.parts.length] }):=by simp[Pl.Ct.take,hf]
   rw[e];exact qtj w B g t c vp vo h 3 n op cl a (.inl rfl) (by omega) hn
 ·by_cases hf:c.opened.length=6
  ·have e:c.take ⟨4,0,n,op,cl⟩ a=(8,c):=by simp[Pl.Ct.take,hf]
   rw[e];exact qtl w B g t c vp vo h 4 n op cl a (.inr rfl) hf
  ·have e:c.take ⟨4,0,n,op,cl⟩ a=(0,{ c with parts:=c.parts++[⟨4,a,n,0⟩],opened:=c.opened++[c.parts.length] }):=by simp[Pl.Ct.take,hf]
   rw[e];exact qtj w B g t c vp vo h 4 n op cl a (.inr rfl) (by omega) hn
 ·by_cases h0:c.opened.length=0
  ·have e:c.take ⟨5,0,n,op,cl⟩ a=(5,c):=by simp[Pl.Ct.take,List.length_eq_zero_iff.1 h0]
   rw[e];exact qzz w B g t c vp vo h n op cl a h0
  ·obtain⟨k,hk⟩:∃k,c.opened.length=k+1:=⟨c.opened.length - 1,by omega⟩
   have hx:c.opened[k]?=some c.opened[k]:=List.getElem?_eq_getElem (by omega);have hl:c.opened.getLast?=some c.opened[k]:=by rw[List.getLast?_eq_getElem?,show c.opened.length - 1=k by omega];exact hx
   have hm:=hO _ (List.mem_of_getElem? hx);generalize c.opened[k]=m at hx hl hm;have hp:c.parts[m]?=some c.parts[m]:=List.getElem?_eq_getElem hm;generalize c.parts[m]=p at hp;have ht:Pl.qk7 c.parts m=p.text:=by unfold Pl.qk7;rw[hp]
   by_cases he:p.text=n
   ·have e:c.take ⟨5,0,n,op,cl⟩ a=(0,{ c with parts:=Pl.qbc c.parts m c.parts.length++[⟨5,a,n,m⟩],opened:=c.opened.dropLast }):=by simp[Pl.Ct.take,hl,ht,he]
    rw[e];exact q5b w B g t c vp vo h n op cl a k m hk hx p hp he h6 hn
   ·have e:c.take ⟨5,0,n,op,cl⟩ a=(6,c):=by simp[Pl.Ct.take,hl,ht,he]
    rw[e];exact qry w B g t c vp vo h n op cl a k m hk hx p hp he h6
 ·exact qtm w B g t c vp vo h n op cl a
 ·exact qv8 w B g t c vp vo h n op cl a
theorem qpt(s:ByteArray)(w:World)(hs:s.size≤100000) :
  Calls Tryz.prog 204 #[.string s,.string ⟨#[9,12,13,32]⟩] w fun e w'=>e=.returned (bs (Lib.trimRightS s.data.toList Pl.qdm))∧Below w.heap.size w w':=
 Any.strings_TrimRight_laid Tryz.lays162 (by kernel_rfl) s ⟨#[9,12,13,32]⟩ w (by omega) (by decide) (ascii_of_all (by decide))
theorem qru(s:ByteArray)(w:World) :
  Calls Tryz.prog 196 #[.string s,.string ⟨#[9,12,13,32]⟩] w fun e w'=>e=.returned (bs (Lib.trimLeftS s.data.toList Pl.qdm))∧Below w.heap.size w w':=
 Any.strings_TrimLeft_laid Tryz.lays161 (by kernel_rfl) s ⟨#[9,12,13,32]⟩ w (by decide) (ascii_of_all (by decide))
theorem qn7(s:ByteArray)(w:World) :
  Calls Tryz.prog 196 #[.string s,.string ⟨#[9,10,12,13,32]⟩] w fun e w'=>e=.returned (bs (Lib.trimLeftS s.data.toList Pl.qah))∧Below w.heap.size w w':=
 Any.strings_TrimLeft_laid Tryz.lays161 (by kernel_rfl) s ⟨#[9,10,12,13,32]⟩ w (by decide) (ascii_of_all (by decide))
theorem qv4(s:ByteArray)(w:World)(hs:s.size≤100000) :
  Calls Tryz.prog 150 #[.string s,.string ⟨#[9,10,12,13,32]⟩] w fun e w'=>e=.returned (bs (Lib.trimS s.data.toList Pl.qah))∧Below w.heap.size w w':=
 Any.strings_Trim_laid Tryz.lays160 (by kernel_rfl) s ⟨#[9,10,12,13,32]⟩ w (by omega) (by decide) (ascii_of_all (by decide))
theorem qn9{P:Program}{fn:Func}{R:Ending→World→Prop}{a:Act}{w:World}{t u:Tmp}(h:fn.results=#[.tmp t,.tmp u])(ha:a.defers=[])(x y:Value)(hx:a.tmps.getD t undef=x)(hy:a.tmps.getD u undef=y)(hR:R (.returned (.tuple #[x,y])) w):bodyPost P fn R .ret a w:=by
 subst hx hy;refine bodyPost_ret ?_ ha hR;simp[results,h]
theorem q8r(w:World)(B g:Nat)(t:List UInt8)(c:Pl.Ct)(vp vo:Value)(h:CtAt w B g t c vp vo)(a z:Nat)(ha:a≤t.length)(hz:z≤t.length)(_ht:t.length≤2000)
  (X Y:ByteArray) (hT:∀w,Calls Tryz.prog 204 #[.string ((⟨t.toArray⟩:ByteArray).extract 0 a),.string ⟨#[9,12,13,32]⟩] w fun e w'=>e=.returned (.string X)∧Below w.heap.size w w')
  (hL:∀w,Calls Tryz.prog 196 #[.string ((⟨t.toArray⟩:ByteArray).extract z t.length),.string ⟨#[9,12,13,32]⟩] w fun e w'=>e=.returned (.string Y)∧Below w.heap.size w w')
  (hX:X.toList.isEmpty=false) (n:Nat) (hn:X.size=n+1) (He:n≤100000) (hb:∀hh:n<X.size,X[n]'hh≠10)  :
  Calls Tryz.prog 151 #[.pointer (some ⟨g,0,none⟩),.int .i64 a,.int .i64 z] w fun e w'=>e=.returned (.tuple #[.int .i64 a,.int .i64 z])∧Below w.heap.size w w':=by
 obtain⟨T,Ha⟩:∃T,T=(⟨t.toArray⟩:ByteArray):=⟨_,rfl⟩;have hc:T.size=t.length:=by rw[Ha];simp[ByteArray.size]
 rw[←Ha]at hT hL;have HT:=hd hT;have HL:=hd hL;have b0:=h.cell 0 _ rfl;unfold bs at b0;rw[←Ha]at b0;have Hb:n<X.size:=by omega
 have d1:¬((X[n]'Hb).toNat:Int)=10:=fun q=>hb Hb (UInt8.toNat_inj.1 (show (X[n]'Hb).toNat=10 by omega));have w1:IntKind.i64.wrap (n:Int)=n:=qh5 n (by omega);clear hb;have H:=hd h;clear hT hL h Ha;rw[←hc]at ha hz HL;have c1:(a:Int)≤(T.size:Int):=by omega
 have c2:(z:Int)≤(T.size:Int):=by omega
 clear hc;go_enter Tryz.func151,Tryz.ntmps151
 go_wp2_with (first
   | (go_at_call 204;refine Calls.mono (HT.out _) ?_;rintro e w1 ⟨rfl,hb⟩;have b1:w1.cell? ⟨g,0,none⟩=some (.string T):=(World.cell?_of_block (hb.block _ (CtAt.lt H.out))).trans b0;have Hc:=hd hb;clear hb)
   | (go_at_call 196;refine Calls.mono (HL.out _) ?_;rintro e w2 ⟨rfl,hb⟩;have he:=hd hb;clear hb))
 refine qn9 Tryz.results151 rfl _ _ rfl rfl ?_;exact⟨rfl,by have h1:=Hc.out;have h2:=he.out;exact h1.trans (h2.mono h1.size)⟩
theorem q8q(w:World)(B g:Nat)(t:List UInt8)(c:Pl.Ct)(vp vo:Value)(h:CtAt w B g t c vp vo)(a z:Nat)(ha:a≤t.length)(hz:z≤t.length)(_ht:t.length≤2000)
  (X Y:ByteArray) (hT:∀w,Calls Tryz.prog 204 #[.string ((⟨t.toArray⟩:ByteArray).extract 0 a),.string ⟨#[9,12,13,32]⟩] w fun e w'=>e=.returned (.string X)∧Below w.heap.size w w')
  (hL:∀w,Calls Tryz.prog 196 #[.string ((⟨t.toArray⟩:ByteArray).extract z t.length),.string ⟨#[9,12,13,32]⟩] w fun e w'=>e=.returned (.string Y)∧Below w.heap.size w w')
  (hX:X.toList.isEmpty=true) (hY:Y.toList.isEmpty=false) (hy:0<Y.size) (Hb:Y[0]≠10) :
  Calls Tryz.prog 151 #[.pointer (some ⟨g,0,none⟩),.int .i64 a,.int .i64 z] w fun e w'=>e=.returned (.tuple #[.int .i64 a,.int .i64 z])∧Below w.heap.size w w':=by
 obtain⟨T,Ha⟩:∃T,T=(⟨t.toArray⟩:ByteArray):=⟨_,rfl⟩;have hc:T.size=t.length:=by rw[Ha];simp[ByteArray.size]
 rw[←Ha]at hT hL;have HT:=hd hT;have HL:=hd hL;have b0:=h.cell 0 _ rfl;unfold bs at b0;rw[←Ha]at b0;have d2:¬(Y[0].toNat:Int)=10:=fun q=>Hb (UInt8.toNat_inj.1 (show Y[0].toNat=10 by omega));have d3:(0:Int)<(Y.size:Int):=by omega
 clear Hb;have H:=hd h;clear hT hL h Ha;rw[←hc]at ha hz HL;have c1:(a:Int)≤(T.size:Int):=by omega
 have c2:(z:Int)≤(T.size:Int):=by omega
 clear hc;go_enter Tryz.func151,Tryz.ntmps151
 go_wp2_with (first
   | (go_at_call 204;refine Calls.mono (HT.out _) ?_;rintro e w1 ⟨rfl,hb⟩;have b1:w1.cell? ⟨g,0,none⟩=some (.string T):=(World.cell?_of_block (hb.block _ (CtAt.lt H.out))).trans b0;have Hc:=hd hb;clear hb)
   | (go_at_call 196;refine Calls.mono (HL.out _) ?_;rintro e w2 ⟨rfl,hb⟩;have he:=hd hb;clear hb))
 refine qn9 Tryz.results151 rfl _ _ rfl rfl ?_;exact⟨rfl,by have h1:=Hc.out;have h2:=he.out;exact h1.trans (h2.mono h1.size)⟩
theorem q8n(w:World)(B g:Nat)(t:List UInt8)(c:Pl.Ct)(vp vo:Value)(h:CtAt w B g t c vp vo)(a z:Nat)(ha:a≤t.length)(hz:z≤t.length)(_ht:t.length≤2000)
  (X Y:ByteArray) (hT:∀w,Calls Tryz.prog 204 #[.string ((⟨t.toArray⟩:ByteArray).extract 0 a),.string ⟨#[9,12,13,32]⟩] w fun e w'=>e=.returned (.string X)∧Below w.heap.size w w')
  (hL:∀w,Calls Tryz.prog 196 #[.string ((⟨t.toArray⟩:ByteArray).extract z t.length),.string ⟨#[9,12,13,32]⟩] w fun e w'=>e=.returned (.string Y)∧Below w.heap.size w w')
  (hX:X.toList.isEmpty=false) (n:Nat) (hn:X.size=n+1) (hf:n≤100000) (hb:∀hh:n<X.size,X[n]'hh=10) (hY:Y.toList.isEmpty=false) (hy:0<Y.size) (Hb:Y[0]≠10) :
  Calls Tryz.prog 151 #[.pointer (some ⟨g,0,none⟩),.int .i64 a,.int .i64 z] w fun e w'=>e=.returned (.tuple #[.int .i64 a,.int .i64 z])∧Below w.heap.size w w':=by
 obtain⟨T,Ha⟩:∃T,T=(⟨t.toArray⟩:ByteArray):=⟨_,rfl⟩;have hc:T.size=t.length:=by rw[Ha];simp[ByteArray.size]
 rw[←Ha]at hT hL;have HT:=hd hT;have HL:=hd hL;have b0:=h.cell 0 _ rfl;unfold bs at b0;rw[←Ha]at b0;have Hc:n<X.size:=by omega
 have d1:((X[n]'Hc).toNat:Int)=10:=by rw[hb Hc];rfl
 have w1:IntKind.i64.wrap (n:Int)=n:=qh5 n (by omega);clear hb;have d2:¬(Y[0].toNat:Int)=10:=fun q=>Hb (UInt8.toNat_inj.1 (show Y[0].toNat=10 by omega));have d3:(0:Int)<(Y.size:Int):=by omega
 clear Hb;have H:=hd h;clear hT hL h Ha;rw[←hc]at ha hz HL;have c1:(a:Int)≤(T.size:Int):=by omega
 have c2:(z:Int)≤(T.size:Int):=by omega
 clear hc;go_enter Tryz.func151,Tryz.ntmps151
 go_wp2_with (first
   | (go_at_call 204;refine Calls.mono (HT.out _) ?_;rintro e w1 ⟨rfl,hb⟩;have b1:w1.cell? ⟨g,0,none⟩=some (.string T):=(World.cell?_of_block (hb.block _ (CtAt.lt H.out))).trans b0;have he:=hd hb;clear hb)
   | (go_at_call 196;refine Calls.mono (HL.out _) ?_;rintro e w2 ⟨rfl,hb⟩;have He:=hd hb;clear hb))
 refine qn9 Tryz.results151 rfl _ _ rfl rfl ?_;exact⟨rfl,by have h1:=he.out;have h2:=He.out;exact h1.trans (h2.mono h1.size)⟩
theorem qkg(w:World)(o:Obj):(w.alloc o).heap.size=w.heap.size+1:=by unfold World.alloc;simp only[Array.size_push]
theorem SeAt.obj{w:World}{B:Nat}{F:Fix}{S:List Pl.Src}{vv:Value}{s:Pl.Sr}(h:SeAt w B F S vv s):∃es clock,w.heap[F.be]?=some (.map es clock)∧es.size=s.ends.length:=by
 obtain⟨es,c,h1,h2⟩:=h.ends;refine⟨es,c,h1,?_⟩;have:=congrArg List.length h2;simpa [qne] using this
theorem q8u{w:World}{b:Nat}{es:Array MapEntry}{clock:Nat}(h:w.heap[b]?=some (.map es clock)):(Builtin.len_ #[175] 3 #[.map (some b)]).run Tryz.prog w=.ok (.int .i64 (es.size:Nat)) w:=by
 unfold Builtin.len_;simp[go_sem,run_underlying Tryz.underlying175,Go.MapKept.run_getObj_map h,Result.andThen]
theorem SeAt.len{w:World}{B:Nat}{F:Fix}{S:List Pl.Src}{vv:Value}{s:Pl.Sr}(h:SeAt w B F S vv s):(Builtin.len_ #[175] 3 #[.map (some F.be)]).run Tryz.prog w=.ok (.int .i64 (s.ends.length:Nat)) w:=by
 obtain⟨es,c,h1,h2⟩:=h.obj;rw[←h2];exact q8u h1
def qna(w:World)(g:Nat)(a b c d:Value):World:=(((w.setCell ⟨g,5,none⟩ a).setCell ⟨g,6,none⟩ b).setCell ⟨g,7,none⟩ c).setCell ⟨g,8,none⟩ d
theorem q2t{w:World}{g k:Nat}(h:k≠g)(a b c d:Value):(qna w g a b c d).heap[k]?=w.heap[k]?:=by
 have e:∀(w:World) (j:Nat) (v:Value),(w.setCell ⟨g,j,none⟩ v).heap[k]?=w.heap[k]?:=fun w j v=>Below.heap_setCell _ _ _ _ h;unfold qna;rw[e,e,e,e]
theorem qwg{B:Nat}{a w:World}{g:Nat}(h:Below B a w)(hg:B≤g)(x y z u:Value):Below B a (qna w g x y z u):=
 (((h.setCell (p:=⟨g,5,none⟩) hg x).setCell (p:=⟨g,6,none⟩) hg y).setCell (p:=⟨g,7,none⟩) hg z).setCell (p:=⟨g,8,none⟩) hg u
theorem SeAt.fault{w:World}{B:Nat}{F:Fix}{S:List Pl.Src}{vv:Value}{s:Pl.Sr}(h:SeAt w B F S vv s)(f:Pl.Ft):SeAt (qna w F.g (.int .i64 f.code) (.int .i64 f.kind) (.string ⟨f.place.toArray⟩) (.int .i64 f.pos)) B F S vv { s with fault:=f }∧Cue B F w (qna w F.g (.int .i64 f.code) (.int .i64 f.kind) (.string ⟨f.place.toArray⟩) (.int .i64 f.pos)):=by
 have ha:=fun k (hk:k≠F.g)=>q2t (w:=w) hk (.int .i64 f.code) (.int .i64 f.kind) (.string ⟨f.place.toArray⟩) (.int .i64 f.pos)
 have Ha:(qna w F.g (.int .i64 f.code) (.int .i64 f.kind) (.string ⟨f.place.toArray⟩) (.int .i64 f.pos)).heap[F.g]?=some (.cells (qkf F S.length vv f) 178 (0,0)):=
  qg9 (t:=178) [.int .i64 f.code,.int .i64 f.kind,.string ⟨f.place.toArray⟩,.int .i64 f.pos] w 5 [.slice (some ⟨F.bS,0,none⟩) S.length S.length,.map (some F.bp),.map (some F.be),.map (some F.bn),vv] [.int .i64 s.fault.code,.int .i64 s.fault.kind,bs s.fault.place,.int .i64 s.fault.pos] (by have:=h.blk;unfold qkf at this;simpa using this) rfl rfl
 have hb:=qwg (Below.refl B w) h.le.1 (.int .i64 f.code) (.int .i64 f.kind) (.string ⟨f.place.toArray⟩) (.int .i64 f.pos);generalize qna w F.g _ _ _ _=w' at ha Ha hb ⊢;refine⟨⟨Ha,h.srcKept fun k _ h1 _=>ha k h1,h.places.heap (ha _ (qak h.blk h.places).symm),h.ends.heap (ha _ h.apart.1.symm),h.le,h.apart⟩,hb,fun k _ h1 _=>ha k h1⟩
theorem qkz(S:List Pl.Src)(w:World)(B:Nat)(F:Fix)(vv:Value)(s:Pl.Sr)(e:Pl.En)(kind:Int)(pos:Nat)(h:SeAt w B F S vv s)(hi:e.1<S.length)(hB:B≤w.heap.size) :
  Calls Tryz.prog 107 #[.pointer (some ⟨F.g,0,none⟩),qf7 e,.int .i64 kind,.int .i64 pos] w fun ed w'=>(∃r,ed=.returned r)∧SeAt w' B F S vv (s.wrong S e.1 kind pos)∧Cue B F w w':=by
 obtain⟨src,ha⟩:∃src,S[e.1]?=some src:=⟨S[e.1],List.getElem?_eq_getElem hi⟩;have hP:Pl.qep S e.1=src.name:=by unfold Pl.qep;rw[ha]
 have b0:∀o,(w.alloc o).cell? ⟨F.g,0,none⟩=some (.slice (some ⟨F.bS,0,none⟩) S.length S.length):=fun o=>(h.alloc o).cell 0 _ rfl;have b1:∀o,(w.alloc o).cell? ⟨F.bS,e.1*2,none⟩=some (.string ⟨src.name.toArray⟩):=fun o=>(h.alloc o).src.name e.1 src ha;have c1:(e.1:Int)<(S.length:Int):=by omega
 have HF:Hid (∀o,SeAt (qna (w.alloc o) F.g (.int .i64 3) (.int .i64 kind) (.string ⟨src.name.toArray⟩) (.int .i64 pos)).drew B F S vv (s.wrong S e.1 kind pos)∧Cue B F w (qna (w.alloc o) F.g (.int .i64 3) (.int .i64 kind) (.string ⟨src.name.toArray⟩) (.int .i64 pos)).drew):=fun o=>by
  have hf:=SeAt.fault (h.alloc o) ⟨3,kind,Pl.qep S e.1,pos⟩;rw[hP]at hf;have h1:Cue B F w (w.alloc o):=Cue.of_below ((Below.refl w.heap.size w).alloc (Nat.le_refl _) o) hB;have h2:=h1.trans hf.2;refine⟨?_,h2.trans (Cue.of_below (Below.refl _ _).drew (Nat.le_trans hB h2.below.size))⟩;have:=hf.1.drew;unfold Pl.Sr.wrong;rw[hP];exact this
 have y5:∀o,(w.alloc o).cell? ⟨F.g,5,none⟩=some _:=fun o=>(h.alloc o).cell 5 _ rfl;have y6:∀o,(w.alloc o).cell? ⟨F.g,6,none⟩=some _:=fun o=>(h.alloc o).cell 6 _ rfl;have y7:∀o,(w.alloc o).cell? ⟨F.g,7,none⟩=some _:=fun o=>(h.alloc o).cell 7 _ rfl;have y8:∀o,(w.alloc o).cell? ⟨F.g,8,none⟩=some _:=fun o=>(h.alloc o).cell 8 _ rfl;have z5:∀o,(w.alloc o).frozen? ⟨F.g,5,none⟩=false:=fun o=>(h.alloc o).thaw 5;have z6:∀o,(w.alloc o).frozen? ⟨F.g,6,none⟩=false:=fun o=>(h.alloc o).thaw 6;have z7:∀o,(w.alloc o).frozen? ⟨F.g,7,none⟩=false:=fun o=>(h.alloc o).thaw 7;have z8:∀o,(w.alloc o).frozen? ⟨F.g,8,none⟩=false:=fun o=>(h.alloc o).thaw 8;rw[qbi];unfold qao bs;clear h hP ha;go_enter Tryz.func107,Tryz.ntmps107
 go_wp2_with fail
 go_region
 all_goals
  go_wp2_with fail
  go_end0
  unfold qna at HF;exact⟨⟨_,rfl⟩,HF.out _⟩
end Go.Proofs.YtfkhljmiehdgmaaGreatDoor
namespace Go.Proofs.YtfkhljmiehdgmaaGreatDoor
open Go.RowKit Go.Maps
def ql4(l:List (Pl.En×Nat)):List (Value×Value):=l.map fun p=>(qf7 p.1,.int .i64 (p.2:Nat))
def qf5(l:List Int):List Value:=l.map fun z=>.int .i64 z
def qh7(F:Fix)(i g n:Nat):List Value:=[F.pv i,.slice (some ⟨g,0,none⟩) n n]
def qd7(F:Fix):List Nat→List (Nat×List Int)→List Value
 | g::M,v::l=>qh7 F v.1 g v.2.length++qd7 F M l
 | _,_=>[]
theorem qml(F:Fix)(g:Nat)(v:Nat×List Int):∀(M:List Nat) (l:List (Nat×List Int)),M.length=l.length→qd7 F (M++[g]) (l++[v])=qd7 F M l++qh7 F v.1 g v.2.length
 | [],[],_=>by simp[qd7]
 | h::M,u::l,e=>by
   show qh7 F u.1 h u.2.length++qd7 F (M++[g]) (l++[v])=_;rw[qml F g v M l (by simpa using e)];simp[qd7]
 | [],v::l,h=>by simp at h
 | g::M,[],h=>by simp at h
theorem qmm(F:Fix)(f:List Int→List Int)(hf:∀l,(f l).length=l.length):∀(M:List Nat) (l:List (Nat×List Int)) (k:Nat),qd7 F M (l.modify k fun x=>(x.1,f x.2))=qd7 F M l
 | [],l,k=>by simp[qd7]
 | g::M,[],k=>by simp[qd7]
 | g::M,v::l,0=>by simp[qd7,hf]
 | g::M,v::l,k+1=>by
   show qd7 F (g::M) (v::l.modify k _)=_;show qh7 F v.1 g v.2.length++qd7 F M (l.modify k _)=_;rw[qmm F f hf M l k];rfl
structure SvAt(w:World)(B:Nat)(F:Fix)(S:List Pl.Src)(vv:Value)(M:List Nat)(s:Pl.Sr):Prop where
 se:SeAt w B F S vv s
 nums:qe8 w F.bn (ql4 s.nums)
 row:w.ownsRow B 205 2 vv s.vis.length (qd7 F M s.vis)
 len:M.length=s.vis.length
 marks:∀(i g:Nat) (v:Nat×List Int),M[i]?=some g→s.vis[i]?=some v→w.heap[g]?=some (.cells (qf5 v.2).toArray 3 (0,0))∧B≤g
 one:M.Nodup
 apart:F.bn≠F.be∧F.bn≠F.bp∧B≤F.bn
structure Cuv(B:Nat)(F:Fix)(w w':World):Prop where
 below:Below B w w'
 keep:∀k cs t fz,w.heap[k]?=some (.cells cs t fz)→k≠F.g→t≠205→t≠3→w'.heap[k]?=w.heap[k]?
theorem Cuv.refl(B:Nat)(F:Fix)(w:World):Cuv B F w w:=⟨Below.refl _ _,fun _ _ _ _ _ _ _ _=>rfl⟩
theorem Cuv.trans{B:Nat}{F:Fix}{a b c:World}(h:Cuv B F a b)(k:Cuv B F b c):Cuv B F a c:=
 ⟨h.below.trans k.below,fun i cs t fz hi h1 h2 h3=>(k.keep i cs t fz ((h.keep i cs t fz hi h1 h2 h3).trans hi) h1 h2 h3).trans (h.keep i cs t fz hi h1 h2 h3)⟩
theorem Cuv.of_below{B:Nat}{F:Fix}{w w':World}(h:Below w.heap.size w w')(hB:B≤w.heap.size):Cuv B F w w':=
 ⟨h.mono hB,fun k _ _ _ hk _ _ _=>h.block k (Array.getElem?_eq_some_iff.1 hk).1⟩
theorem Cuv.of_cue{w w':World}{B:Nat}{F:Fix}{S:List Pl.Src}{vv:Value}{s:Pl.Sr}(h:SeAt w B F S vv s)(hc:Cue B F w w'):Cuv B F w w':=
 ⟨hc.below,fun k _ _ _ hk h1 _ _=>hc.keep k (Array.getElem?_eq_some_iff.1 hk).1 h1 (qak hk h.ends)⟩
theorem qd8:(205:TypeId)≠178:=by decide
theorem qn2:(205:TypeId)≠173:=by decide
theorem qrp:(205:TypeId)≠229:=by decide
theorem qiu:(205:TypeId)≠3:=by decide
theorem qgf:(3:TypeId)≠178:=by decide
theorem qrs:(3:TypeId)≠173:=by decide
theorem qv3:(3:TypeId)≠229:=by decide
theorem SvAt.kept{w w':World}{B:Nat}{F:Fix}{S:List Pl.Src}{vv:Value}{M:List Nat}{s:Pl.Sr}(h:SvAt w B F S vv M s)(hs:SeAt w' B F S vv s)(hk:∀k,k<w.heap.size→(∀cs t fz,w.heap[k]?=some (.cells cs t fz)→t=205∨t=3)→k≠F.be→w'.heap[k]?=w.heap[k]?):SvAt w' B F S vv M s:=by
 refine⟨hs,?_,?_,h.len,?_,h.one,h.apart⟩
 ·obtain⟨es,c,hb,hl⟩:=h.nums
  exact⟨es,c,(hk _ h.nums.lt (fun cs t fz e=>by rw[hb]at e;cases e) h.apart.1).trans hb,hl⟩
 ·refine qac h.row fun k hv=>?_
  obtain⟨cur,hc⟩:=qad h.row k hv;exact hk k (Array.getElem?_eq_some_iff.1 hc).1 (fun cs t fz e=>by rw[hc]at e;injection e with e;injection e with _ e _;exact .inl e.symm) (qak hc h.se.ends)
 ·intro i g v hi hv
  obtain⟨h1,h2⟩:=h.marks i g v hi hv;exact⟨(hk g (Array.getElem?_eq_some_iff.1 h1).1 (fun cs t fz e=>by rw[h1]at e;injection e with e;injection e with _ e _;exact .inr e.symm) (qak h1 h.se.ends)).trans h1,h2⟩
theorem SvAt.below{w w':World}{B:Nat}{F:Fix}{S:List Pl.Src}{vv:Value}{M:List Nat}{s:Pl.Sr}(h:SvAt w B F S vv M s)(hb:Below w.heap.size w w'):SvAt w' B F S vv M s:=h.kept (h.se.below hb) fun k hk _ _=>hb.block k hk
theorem SvAt.alloc{w:World}{B:Nat}{F:Fix}{S:List Pl.Src}{vv:Value}{M:List Nat}{s:Pl.Sr}(h:SvAt w B F S vv M s)(o:Obj):SvAt (w.alloc o) B F S vv M s:=h.below (ba o)
theorem SvAt.drew{w:World}{B:Nat}{F:Fix}{S:List Pl.Src}{vv:Value}{M:List Nat}{s:Pl.Sr}(h:SvAt w B F S vv M s):SvAt w.drew B F S vv M s:=h.below (Below.refl _ _).drew
theorem SvAt.turn{w w':World}{B:Nat}{F:Fix}{S:List Pl.Src}{vv:Value}{M:List Nat}{s s':Pl.Sr}(h:SvAt w B F S vv M s)(hs:SeAt w' B F S vv s')(hc:Cue B F w w')(hn:s'.nums=s.nums)(hv:s'.vis=s.vis):SvAt w' B F S vv M s':=by
 have hk:∀k,k<w.heap.size→(∀cs t fz,w.heap[k]?=some (.cells cs t fz)→t=205∨t=3)→k≠F.be→w'.heap[k]?=w.heap[k]?:=fun k hk ht ha=>hc.keep k hk (fun e=>by
  subst e;rcases ht _ _ _ h.se.blk with q | q
  ·exact qd8 q.symm
  ·exact qgf q.symm) ha
 refine⟨hs,?_,?_,by rw[hv];exact h.len,?_,h.one,h.apart⟩
 ·obtain⟨es,c,hb,hl⟩:=h.nums
  rw[hn];exact⟨es,c,(hk _ h.nums.lt (fun cs t fz e=>by rw[hb]at e;cases e) h.apart.1).trans hb,hl⟩
 ·rw[hv]
  refine qac h.row fun k hv=>?_;obtain⟨cur,hc⟩:=qad h.row k hv;exact hk k (Array.getElem?_eq_some_iff.1 hc).1 (fun cs t fz e=>by rw[hc]at e;injection e with e;injection e with _ e _;exact .inl e.symm) (qak hc h.se.ends)
 ·rw[hv]
  intro i g v hi hv;obtain⟨h1,h2⟩:=h.marks i g v hi hv;exact⟨(hk g (Array.getElem?_eq_some_iff.1 h1).1 (fun cs t fz e=>by rw[h1]at e;injection e with e;injection e with _ e _;exact .inr e.symm) (qak h1 h.se.ends)).trans h1,h2⟩
theorem SvAt.far{w w':World}{B:Nat}{F:Fix}{S:List Pl.Src}{vv:Value}{M:List Nat}{s:Pl.Sr}(h:SvAt w B F S vv M s){G:Nat}{x:Pl.Sx}(hG:StIn w G x)(hk:∀k,k≠G→w'.heap[k]?=w.heap[k]?):SvAt w' B F S vv M s:=
 h.kept (h.se.far hG hk) fun k _ ht _=>hk k (fun e=>by
  subst e;rcases ht _ _ _ hG with q | q
  ·exact absurd q (by decide)
  ·exact absurd q (by decide))
theorem SvAt.mark{w:World}{B:Nat}{F:Fix}{S:List Pl.Src}{vv:Value}{M:List Nat}{s:Pl.Sr}(h:SvAt w B F S vv M s){v g:Nat}(hg:M[v]?=some g)(a:Nat)(m:Int):SvAt (w.setCell ⟨g,a,none⟩ (.int .i64 m)) B F S vv M (s.mark v a m)∧Cuv B F w (w.setCell ⟨g,a,none⟩ (.int .i64 m)):=by
 have ha:∀k,k≠g→(w.setCell ⟨g,a,none⟩ (.int .i64 m)).heap[k]?=w.heap[k]?:=fun k hk=>Below.heap_setCell _ _ _ _ hk;have Hf:v<s.vis.length:=by rw[←h.len];exact(List.getElem?_eq_some_iff.1 hg).1
 obtain⟨u,hu⟩:∃u,s.vis[v]?=some u:=⟨_,List.getElem?_eq_getElem Hf⟩;obtain⟨hb,hB⟩:=h.marks v g u hg hu;have Hb:=heap_setCell_same w g a _ _ (.int .i64 m) hb;have he:F.bn≠g:=fun e=>by
  obtain⟨es,c,hf,_⟩:=h.nums;rw[e,hb]at hf;cases hf
 have Hg:SeAt (w.setCell ⟨g,a,none⟩ (.int .i64 m)) B F S vv (s.mark v a m):=by
  obtain⟨cs',fz',hc⟩:=h.se.src.blk;refine⟨(ha _ (qae h.se.blk hb qgf.symm)).trans h.se.blk,h.se.src.kept (ha _ (qae hc hb qrs.symm)) (fun i s' q hs hv=>?_),h.se.places.heap (ha _ (qak hb h.se.places).symm),h.se.ends.heap (ha _ (qak hb h.se.ends).symm),h.se.le,h.se.apart⟩;obtain⟨cur,Hi⟩:=qad (h.se.src.row i s' hs) q hv;exact ha q (qae Hi hb qv3.symm)
 have Hc:(s.mark v a m).vis.length=s.vis.length:=by unfold Pl.Sr.mark;simp
 refine⟨⟨Hg,h.nums.heap (ha _ he),?_,by rw[Hc];exact h.len,?_,h.one,h.apart⟩,⟨(Below.refl _ _).setCell (p:=⟨g,a,none⟩) hB _,fun k cs t fz hk _ _ h3=>ha k (fun e=>by subst e;rw[hb]at hk;injection hk with hk;injection hk with _ hk _;exact h3 hk.symm)⟩⟩
 ·rw[Hc]
  have e:qd7 F M (s.mark v a m).vis=qd7 F M s.vis:=qmm F (fun l=>l.set a m) (by simp) M s.vis v;rw[e];refine qac h.row fun k hk=>ha k ?_;obtain⟨cur,hc⟩:=qad h.row k hk;exact qae hc hb qiu
 ·intro i g' v' hi Ha
  have Ha:(s.vis.modify v fun x=>(x.1,x.2.set a m))[i]?=some v':=Ha;rw[List.getElem?_modify]at Ha;by_cases He:v=i
  ·subst He
   rw[hg]at hi;obtain rfl:=Option.some.inj hi;rw[hu]at Ha;simp only[if_true,Option.map_eq_map,Option.map_some,Option.some.injEq]at Ha;subst Ha;refine⟨?_,hB⟩;rw[Hb];simp[qf5,List.map_set]
  ·obtain⟨v0,e1,e2⟩:∃v0,s.vis[i]?=some v0∧v0=v':=by
    cases hq:s.vis[i]? with
    | none=>rw[hq]at Ha;cases Ha
    | some v0=>rw[hq]at Ha;simp[He]at Ha;exact⟨v0,rfl,Ha⟩
   subst e2;obtain⟨h1,h2⟩:=h.marks i g' v0 hi e1;refine⟨(ha g' (fun e=>?_)).trans h1,h2⟩;subst e;have hj:=(List.getElem?_eq_some_iff.1 hi).1;exact He ((List.getElem?_inj (List.getElem?_eq_some_iff.1 hg).1 h.one).1 (hg.trans hi.symm))
structure NumsOk(n:Nat)(l:List (Pl.En×Nat)):Prop where
 key:∀p∈l,Pl.SxFit p.1.2∧p.1.1<n
 one:Pl.qji l
theorem qr9{l:List (Pl.En×Nat)}{i:Nat}{p:Value×Value}(h:(ql4 l)[i]?=some p):∃q,l[i]?=some q∧p=(qf7 q.1,.int .i64 (q.2:Nat)):=by
 unfold ql4 at h;rw[List.getElem?_map]at h;obtain⟨q,h1,h2⟩:=Option.map_eq_some_iff.1 h;exact⟨q,h1,h2.symm⟩
theorem qlb{n:Nat}{l:List (Pl.En×Nat)}(h:NumsOk n l)(hn:n≤7):KeysOk Tryz.prog 180 (ql4 l):=by
 refine⟨fun p hp=>?_,fun i j p q hi hj ha=>?_⟩
 ·obtain⟨i,hi⟩:=List.getElem?_of_mem hp
  obtain⟨r,h1,rfl⟩:=qr9 hi;have:=h.key r (List.mem_of_getElem? h1);exact qq3 this.1.ok this.1.far (by omega)
 ·obtain⟨a,h1,rfl⟩:=qr9 hi
  obtain⟨b,h2,rfl⟩:=qr9 hj;exact h.one i j a b h1 h2 (qjb ha)
theorem qt5{l:List (Pl.En×Nat)}{e:Pl.En}(h:Pl.qa1 l e=none):∀p∈ql4 l,p.1≠qf7 e:=by
 intro p hp;unfold ql4 at hp;obtain⟨q,h1,rfl⟩:=List.mem_map.1 hp;exact fun x=>Pl.qik h q h1 (qjb x)
theorem qor{w:World}{bn:Nat}{n:Nat}{l:List (Pl.En×Nat)}(h:qe8 w bn (ql4 l))(ho:NumsOk n l)(hn:n≤7)(e:Pl.En)(he:Pl.SxFit e.2)(hi:e.1≤6) :
  (Instr.lookup 176 (.map (some bn)) (qf7 e) false).run Tryz.prog w=.ok (.int .i64 ((Pl.qa1 l e).getD 0:Nat)) w:=by
 obtain⟨kl,ha⟩:=qq3 he.ok he.far hi;cases hg:Pl.qa1 l e with
 | none=>exact qid qee Tryz.underlying176 (qy1 w) h (qlb ho hn) ha (qt5 hg) false
 | some x=>exact qhj qee Tryz.underlying176 h (qlb ho hn) ha (List.mem_map.2 ⟨(e,x),Pl.qe4 hg,rfl⟩) false
theorem q0q{w:World}{bn:Nat}{n:Nat}{l:List (Pl.En×Nat)}(h:qe8 w bn (ql4 l))(ho:NumsOk n l)(hn:n≤7)(e:Pl.En)(he:Pl.SxFit e.2)(hi:e.1≤6)(v:Nat) :
  ∃w',(Instr.mapUpdate 176 (.map (some bn)) (qf7 e) (.int .i64 v)).run Tryz.prog w=.ok () w'∧qe8 w' bn (ql4 (Pl.qa5 l e v))∧w.grownBy w' (some bn)∧w'.heap.size=w.heap.size:=by
 obtain⟨kl,ha⟩:=qq3 he.ok he.far hi;cases hg:Pl.qa1 l e with
 | none=>
   obtain⟨w',h1,h2,h3,h4⟩:=qic (val:=.int .i64 v) qee Tryz.underlying176 h (qlb ho hn) ha (qt5 hg);refine⟨w',h1,?_,h3,h4⟩;rw[Pl.qeg hg];unfold ql4 at h2 ⊢;rw[List.map_append];exact h2
 | some y=>
   obtain⟨i,i1,i2⟩:=Pl.qhu hg v;obtain⟨w',h1,h2,h3,h4⟩:=qj2 (val:=.int .i64 v) (v:=.int .i64 (y:Nat)) qee Tryz.underlying176 h (qlb ho hn) ha i (by unfold ql4;rw[List.getElem?_map,i1];rfl);refine⟨w',h1,?_,h3,h4⟩;rw[i2];unfold ql4 at h2 ⊢;rw[List.map_set];exact h2
theorem q04:(Tryz.prog.info? 205).map (fun i=>(i.zero,i.size,i.bytes))=some (some (.agg #[.slice none 0 0,.slice none 0 0]),2,48):=by kernel_rfl
theorem qv2:(Value.agg #[.slice none 0 0,.slice none 0 0]).cells.size=2:=rfl
structure Vis1(w wx:World)(B:Nat)(F:Fix)(S:List Pl.Src)(vv:Value)(M:List Nat)(s:Pl.Sr)(e:Pl.En)(n gV gM:Nat):Prop where
 sv:SvAt wx B F S vv M s
 ent:wx.heap[w.heap.size]?=some (.cells (qao e) 180 (0,0))
 vis:wx.heap[gV]?=some (.cells #[F.pv e.1,.slice (some ⟨gM,0,none⟩) n n] 205 (0,0))
 mks:wx.heap[gM]?=some (.cells (qf5 (List.replicate n 0)).toArray 3 (0,0))
 old:w.heap.size≤gV∧w.heap.size≤gM
 below:Below w.heap.size w wx
theorem qqt(n:Nat):madeCells #[Value.int .i64 0] n=(qf5 (List.replicate n 0)).toArray:=by
 apply Array.ext';rw[toList_madeCells_one];simp[qf5]
theorem SeAt.mapOther{w w':World}{B:Nat}{F:Fix}{S:List Pl.Src}{vv:Value}{s:Pl.Sr}(h:SeAt w B F S vv s){b:Nat}{L:List (Value×Value)}(hm:qe8 w b L)(h1:b≠F.be)(h2:b≠F.bp)(hg:w.grownBy w' (some b)):SeAt w' B F S vv s:=by
 have hk:∀k,k<w.heap.size→k≠b→w'.heap[k]?=w.heap[k]?:=fun k hk Ha=>hg.block k hk (fun e=>Ha (Option.some.inj e));obtain⟨cs',fz',hc⟩:=h.src.blk;refine⟨(hk _ (lta h.blk) (qak h.blk hm)).trans h.blk,h.src.kept (hk _ (Array.getElem?_eq_some_iff.1 hc).1 (qak hc hm)) (fun i s' q hs hv=>?_),h.places.heap (hk _ h.places.lt h2.symm),h.ends.heap (hk _ h.ends.lt h1.symm),h.le,h.apart⟩;obtain⟨cur,ha⟩:=qad (h.src.row i s' hs) q hv;exact hk q (Array.getElem?_eq_some_iff.1 ha).1 (qak ha hm)
theorem SvAt.numsPut{w w':World}{B:Nat}{F:Fix}{S:List Pl.Src}{vv:Value}{M:List Nat}{s:Pl.Sr}(h:SvAt w B F S vv M s){l:List (Pl.En×Nat)}(hm:qe8 w' F.bn (ql4 l))(hg:w.grownBy w' (some F.bn)):SvAt w' B F S vv M { s with nums:=l }∧Cuv B F w w':=by
 have hk:∀k,k<w.heap.size→k≠F.bn→w'.heap[k]?=w.heap[k]?:=fun k hk hb=>hg.block k hk (fun e=>hb (Option.some.inj e));have ha:=h.se.mapOther h.nums h.apart.1 h.apart.2.1 hg;refine⟨⟨⟨ha.blk,ha.src,ha.places,ha.ends,ha.le,ha.apart⟩,hm,?_,h.len,?_,h.one,h.apart⟩,⟨⟨hg.os,hg.tape,hg.output,hg.size,fun k hk=>hg.block k (by have:=h.nums.lt;have:=h.apart.2.2;omega) (fun x=>by have:=Option.some.inj x;have:=h.apart.2.2;omega)⟩,fun k cs t fz Ha _ _ _=>hk k (Array.getElem?_eq_some_iff.1 Ha).1 (qak Ha h.nums)⟩⟩
 ·refine qac h.row fun k hv=>?_
  obtain⟨cur,hc⟩:=qad h.row k hv;exact hk k (Array.getElem?_eq_some_iff.1 hc).1 (qak hc h.nums)
 ·intro i g v hi hv
  obtain⟨h1,h2⟩:=h.marks i g v hi hv;exact⟨(hk g (Array.getElem?_eq_some_iff.1 h1).1 (qak h1 h.nums)).trans h1,h2⟩
theorem SvAt.visit{w w0 w':World}{B:Nat}{F:Fix}{S:List Pl.Src}{vv vv':Value}{M:List Nat}{s:Pl.Sr}(h:SvAt w B F S vv M s)(He:Below w.heap.size w w0){i g n:Nat}(hg:w.heap[g]?=some (Obj.cells (qf5 (List.replicate n 0)).toArray 3 (0,0)))(Hj:B≤g)(Hk:g∉M)(hf:w'.ownsRow B 205 2 vv' (s.vis.length+1) (qd7 F M s.vis++qh7 F i g n))(he:w0.grownBy w' vv.ownBlock) :
  SvAt (w'.setCell ⟨F.g,4,none⟩ vv') B F S vv' (M++[g]) { s with vis:=s.vis++[(i,List.replicate n 0)] }∧Cuv B F w (w'.setCell ⟨F.g,4,none⟩ vv'):=by
 have Ha:∀(k:Nat) (cs:Array Value) (t:TypeId) (fz:Nat×Nat),w.heap[k]?=some (.cells cs t fz)→t≠205→w'.heap[k]?=w.heap[k]?:=fun k cs t fz hk ht=>by
  have hi:=(Array.getElem?_eq_some_iff.1 hk).1;refine(he.block k (Nat.lt_of_lt_of_le hi He.size) (fun e=>?_)).trans (He.block k hi);obtain⟨cur,hc⟩:=qad h.row k e.symm;exact qae hk hc ht rfl
 have Hc:∀b L,qe8 w b L→w'.heap[b]?=w.heap[b]?:=fun b L hm=>by
  refine(he.block b (Nat.lt_of_lt_of_le hm.lt He.size) (fun e=>?_)).trans (He.block b hm.lt);obtain⟨cur,hc⟩:=qad h.row b e.symm;exact qak hc hm rfl
 have Hb:∀k,k≠F.g→(w'.setCell ⟨F.g,4,none⟩ vv').heap[k]?=w'.heap[k]?:=fun k hk=>Below.heap_setCell _ _ _ _ hk;have Hi:=(Ha _ _ _ _ h.se.blk qd8.symm).trans h.se.blk;obtain⟨cs',fz',hc⟩:=h.se.src.blk;refine⟨⟨⟨?_,?_,?_,?_,h.se.le,h.se.apart⟩,?_,?_,?_,?_,?_,h.apart⟩,⟨?_,?_⟩⟩
 ·rw[heap_setCell_same _ _ _ _ _ _ Hi]
  simp[qkf]
 ·refine h.se.src.kept ((Hb _ (qae hc h.se.blk qir.symm)).trans (Ha _ _ _ _ hc qn2.symm)) fun i' s' q hs hv=>?_
  obtain⟨cur,Hf⟩:=qad (h.se.src.row i' s' hs) q hv;exact(Hb _ (qae Hf h.se.blk qj0.symm)).trans (Ha _ _ _ _ Hf qrp.symm)
 ·exact h.se.places.heap ((Hb _ (qak h.se.blk h.se.places).symm).trans (Hc _ _ h.se.places))
 ·exact h.se.ends.heap ((Hb _ (qak h.se.blk h.se.ends).symm).trans (Hc _ _ h.se.ends))
 ·exact h.nums.heap ((Hb _ (qak h.se.blk h.nums).symm).trans (Hc _ _ h.nums))
 ·show World.ownsRow _ _ _ _ _ (s.vis++[_]).length _
  rw[List.length_append,qml F g _ M s.vis h.len,show (List.replicate n (0:Int)).length=n by simp];refine qac hf fun k hk=>Hb k ?_;obtain⟨cur,Hf⟩:=qad hf k hk;exact qae Hf Hi qd8
 ·simp[h.len]
 ·intro j g' v hj hv
  rw[List.getElem?_append]at hj;have hv:(s.vis++[(i,List.replicate n 0)])[j]?=some v:=hv;rw[List.getElem?_append,←h.len]at hv;split at hj
  ·rename_i Hg
   rw[if_pos Hg]at hv;obtain⟨h1,h2⟩:=h.marks j g' v hj hv;exact⟨((Hb g' (qae h1 h.se.blk qgf)).trans (Ha _ _ _ _ h1 qiu.symm)).trans h1,h2⟩
  ·rename_i Hg
   rw[if_neg Hg]at hv;have hl:j - M.length=0:=by
    have:=(List.getElem?_eq_some_iff.1 hj).1;simp at this;omega
   rw[hl]at hj hv;simp only[List.getElem?_cons_zero,Option.some.injEq]at hj hv;subst hj hv;exact⟨((Hb _ (qae hg h.se.blk qgf)).trans (Ha _ _ _ _ hg qiu.symm)).trans hg,Hj⟩
 ·rw[List.nodup_append]
  exact⟨h.one,by simp,fun a ha b hb e=>by simp at hb;subst hb e;exact Hk ha⟩
 ·have h1:=h.se.le.1
  have h2:=(lta h.se.blk);exact Below.trans (He.mono (by omega)) (Below.trans ⟨he.os,he.tape,he.output,he.size,fun k hk=>he.block k (by have:=He.size;omega) (fun e=>by have:=(h.row.lt k e.symm).1;omega)⟩ ((Below.refl _ _).setCell (p:=⟨F.g,4,none⟩) h.se.le.1 _))
 ·intro k cs t fz hk h1 h2 _
  exact(Hb k h1).trans (Ha k cs t fz hk h2)
theorem SvAt.ahead{w w0 w':World}{B:Nat}{F:Fix}{S:List Pl.Src}{vv:Value}{M:List Nat}{s:Pl.Sr}(h:SvAt w B F S vv M s)(ha:Below w.heap.size w w0)(Hb:w0.grownBy w' vv.ownBlock):w'.cell? ⟨F.g,4,none⟩=some vv∧w'.frozen? ⟨F.g,4,none⟩=false:=by
 have Ha:=(lta h.se.blk);have hb:w'.heap[F.g]?=some (.cells (qkf F S.length vv s.fault) 178 (0,0)):=by
  refine(Hb.block _ (Nat.lt_of_lt_of_le Ha ha.size) (fun e=>?_)).trans ((ha.block _ Ha).trans h.se.blk);obtain⟨cur,hc⟩:=qad h.row _ e.symm;exact qae h.se.blk hc qd8.symm rfl
 exact⟨qaa hb 4 _ rfl,by simp[World.frozen?,hb]⟩
end Go.Proofs.YtfkhljmiehdgmaaGreatDoor
