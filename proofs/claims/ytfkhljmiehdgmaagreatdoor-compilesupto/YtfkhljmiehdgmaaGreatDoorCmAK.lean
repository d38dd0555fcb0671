/-
  Steps of the proof.
-/
import Derived.Test.YtfkhljmiehdgmaaGreatDoorCmAJ
import Derived.Deep.LoopGhost
set_option maxRecDepth 100000
set_option maxHeartbeats 40000000
namespace Go.Proofs.YtfkhljmiehdgmaaGreatDoor
open Go.RowKit
def TabB(B:Nat)(w:World):Prop:=PTabs w∧∃w0,PTabs w0∧w0.heap.size≤B
theorem TabB.kept{B:Nat}{w w':World}(h:TabB B w)(hb:Below B w w'):TabB B w':=by
 obtain⟨h1,w0,h2,h3⟩:=h;exact⟨h1.kept' h2 (hb.mono h3),w0,h2,h3⟩
def qg7:Prop:=∀(x:Pl.Sx) (b:UInt8) (w:World),PTabs w→Pl.SxOk x →
    Calls Tryz.prog 63 #[qap x,.int .u8 b.toNat] w fun e w'=>e=.returned (qap (x.behind b))∧Below w.heap.size w w'
def BehC(S:List Pl.Src)(k:Nat):Prop:=∀(w:World) (B:Nat) (F:Fix) (vv:Value) (s:Pl.Sr) (n:List UInt8) (x:Pl.Sx),SeAt w B F S vv s→Pl.EndsOk S.length s.ends→257≤s.ends.length+k→Pl.SxFit x→n.length≤2000→TabB B w →
    Calls Tryz.prog 156 #[.pointer (some ⟨F.g,0,none⟩),.string ⟨n.toArray⟩,qap x] w fun e w'=>e=.returned (qap (Pl.behV S k s n x).2)∧SeAt w' B F S vv (Pl.behV S k s n x).1∧Cue B F w w'
def qao(e:Pl.En):Array Value:=#[.int .i64 e.1,.int .u8 (e.2.st.mode:Int),bs e.2.st.name,bs e.2.st.elem,.int .i64 e.2.st.kind,.int .i64 (e.2.st.read:Int),.bool e.2.ma.ref,.bool e.2.st.esc,.int .i64 e.2.ma.hex,.int .i64 e.2.ma.pct,.int .i64 e.2.ma.far]
theorem qbi(e:Pl.En):qf7 e=.agg (qao e):=rfl
def StIn(w:World)(G:Nat)(x:Pl.Sx):Prop:=w.heap[G]?=some (.cells (qaf x) 162 (0,0))
theorem StIn.at'{w:World}{G:Nat}{x:Pl.Sx}(h:StIn w G x):SxAt w G x:=by
 have c:=qaa h;exact⟨c 0 _ rfl,c 1 _ rfl,c 2 _ rfl,c 3 _ rfl,c 4 _ rfl,c 5 _ rfl,c 6 _ rfl,c 7 _ rfl,c 8 _ rfl,c 9 _ rfl⟩
theorem StIn.slot{w:World}{G:Nat}{x:Pl.Sx}(h:StIn w G x):qej 10 w G:=⟨_,_,h,rfl⟩
theorem StIn.lt{w:World}{G:Nat}{x:Pl.Sx}(h:StIn w G x):G<w.heap.size:=(Array.getElem?_eq_some_iff.1 h).1
theorem StIn.below{w w':World}{G:Nat}{x:Pl.Sx}(h:StIn w G x)(hb:Below w.heap.size w w'):StIn w' G x:=(hb.block _ h.lt).trans h
theorem qg9{g:Nat}{t:TypeId}:∀(l:List Value) (w:World) (k:Nat) (pre old:List Value),w.heap[g]?=some (.cells (pre++old).toArray t (0,0))→pre.length=k→old.length=l.length→(qgv w g k l).heap[g]?=some (.cells (pre++l).toArray t (0,0))
 | [],w,k,pre,old,h,_,ho=>by
   have:old=[]:=List.length_eq_zero_iff.1 ho;subst this;exact h
 | v::l,w,k,pre,old,h,hk,ho=>by
   cases old with
   | nil=>simp at ho
   | cons u old=>
     show (qgv (w.setCell ⟨g,k,none⟩ v) g (k+1) l).heap[g]?=_;have h1:=heap_setCell_same w g k _ t v h;have e:(pre++u::old).toArray.setIfInBounds k v=((pre++[v])++old).toArray:=by
      rw[List.setIfInBounds_toArray,List.set_append_right _ _ (by omega),hk,Nat.sub_self];simp
     rw[e]at h1;have:=qg9 l _ (k+1) (pre++[v]) old h1 (by simp[hk]) (by simpa using ho);rw[this];simp
theorem StIn.set{w:World}{G:Nat}{x:Pl.Sx}(h:StIn w G x)(y:Pl.Sx):StIn (qda w G (.int .u8 (y.st.mode:Int)) (.string ⟨y.st.name.toArray⟩) (.string ⟨y.st.elem.toArray⟩) (.int .i64 y.st.kind) (.int .i64 (y.st.read:Int)) (.bool y.ma.ref) (.bool y.st.esc) (.int .i64 y.ma.hex) (.int .i64 y.ma.pct) (.int .i64 y.ma.far)) G y:=by
 unfold StIn at h ⊢;rw[qr4];exact qg9 (t:=162) _ w 0 [] (qaf x).toList (by simpa using h) rfl rfl
theorem qgw{w:World}{G k:Nat}(h:k≠G)(v0 v1 v2 v3 v4 v5 v6 v7 v8 v9:Value):(qda w G v0 v1 v2 v3 v4 v5 v6 v7 v8 v9).heap[k]?=w.heap[k]?:=by
 have e:∀(w:World) (j:Nat) (v:Value),(w.setCell ⟨G,j,none⟩ v).heap[k]?=w.heap[k]?:=fun w j v=>Below.heap_setCell _ _ _ _ h;unfold qda;rw[e,e,e,e,e,e,e,e,e,e]
theorem qb1:(162:TypeId)≠178:=by decide
theorem qn3:(162:TypeId)≠173:=by decide
theorem qrq:(162:TypeId)≠229:=by decide
theorem SeAt.far{w w':World}{B:Nat}{F:Fix}{S:List Pl.Src}{vv:Value}{s:Pl.Sr}(h:SeAt w B F S vv s){G:Nat}{x:Pl.Sx}(hG:StIn w G x)(hk:∀k,k≠G→w'.heap[k]?=w.heap[k]?):SeAt w' B F S vv s:=by
 obtain⟨cs',fz',hc⟩:=h.src.blk;refine⟨(hk _ (qae h.blk hG qb1.symm)).trans h.blk,h.src.kept (hk _ (qae hc hG qn3.symm)) (fun i s' q hs hv=>?_),h.places.heap (hk _ (qak hG h.places).symm),h.ends.heap (hk _ (qak hG h.ends).symm),h.le,h.apart⟩;obtain⟨cur,ha⟩:=qad (h.src.row i s' hs) q hv;exact hk q (qae ha hG qrq.symm)
structure Wki(w wr:World)(B:Nat)(F:Fix)(S:List Pl.Src)(vv:Value)(s:Pl.Sr)(G R:Nat)(x:Pl.Sx):Prop where
 se:SeAt wr B F S vv s
 now:StIn wr G x
 res:StIn wr R Pl.Sx.none
 ne:G≠R
 old:w.heap.size≤G∧w.heap.size≤R∧B≤w.heap.size
 cue:Cue B F w wr
 tabs:TabB B wr
theorem Wki.below{w wr w':World}{B:Nat}{F:Fix}{S:List Pl.Src}{vv:Value}{s:Pl.Sr}{G R:Nat}{x:Pl.Sx}(h:Wki w wr B F S vv s G R x)(hb:Below wr.heap.size wr w'):Wki w w' B F S vv s G R x:=
 have hB:B≤wr.heap.size:=Nat.le_trans h.old.2.2 h.cue.below.size
 ⟨h.se.below hb,h.now.below hb,h.res.below hb,h.ne,h.old,h.cue.trans (Cue.of_below hb hB),h.tabs.kept (hb.mono hB)⟩
theorem Wki.alloc{w wr:World}{B:Nat}{F:Fix}{S:List Pl.Src}{vv:Value}{s:Pl.Sr}{G R:Nat}{x:Pl.Sx}(h:Wki w wr B F S vv s G R x)(o:Obj):Wki w (wr.alloc o) B F S vv s G R x:=h.below (ba o)
theorem Wki.drewN{w wr:World}{B:Nat}{F:Fix}{S:List Pl.Src}{vv:Value}{s:Pl.Sr}{G R:Nat}{x:Pl.Sx}(h:Wki w wr B F S vv s G R x)(n:Nat):Wki w (wr.drewN n) B F S vv s G R x:=h.below (qaz (Below.refl _ _) n)
theorem Wki.set{w wr:World}{B:Nat}{F:Fix}{S:List Pl.Src}{vv:Value}{s:Pl.Sr}{G R:Nat}{x:Pl.Sx}(h:Wki w wr B F S vv s G R x)(y:Pl.Sx):Wki w (qda wr G (.int .u8 (y.st.mode:Int)) (.string ⟨y.st.name.toArray⟩) (.string ⟨y.st.elem.toArray⟩) (.int .i64 y.st.kind) (.int .i64 (y.st.read:Int)) (.bool y.ma.ref) (.bool y.st.esc) (.int .i64 y.ma.hex) (.int .i64 y.ma.pct) (.int .i64 y.ma.far)) B F S vv s G R y:=by
 have ha:=fun k (hk:k≠G)=>qgw (w:=wr) hk (.int .u8 (y.st.mode:Int)) (.string ⟨y.st.name.toArray⟩) (.string ⟨y.st.elem.toArray⟩) (.int .i64 y.st.kind) (.int .i64 (y.st.read:Int)) (.bool y.ma.ref) (.bool y.st.esc) (.int .i64 y.ma.hex) (.int .i64 y.ma.pct) (.int .i64 y.ma.far);have Ha:Below G wr (qda wr G (.int .u8 (y.st.mode:Int)) (.string ⟨y.st.name.toArray⟩) (.string ⟨y.st.elem.toArray⟩) (.int .i64 y.st.kind) (.int .i64 (y.st.read:Int)) (.bool y.ma.ref) (.bool y.st.esc) (.int .i64 y.ma.hex) (.int .i64 y.ma.pct) (.int .i64 y.ma.far)):=qez (Below.refl _ _) (Nat.le_refl _) _ _ _ _ _ _ _ _ _ _;have hs:=h.now.set y;generalize qda wr G _ _ _ _ _ _ _ _ _ _=w' at ha Ha hs ⊢;refine⟨h.se.far h.now ha,hs,(ha _ h.ne.symm).trans h.res,h.ne,h.old,⟨h.cue.below.trans (Ha.mono (Nat.le_trans h.old.2.2 h.old.1)),fun k hk h1 h2=>(ha k (by have:=h.old.1;omega)).trans (h.cue.keep k hk h1 h2)⟩,h.tabs.kept (Ha.mono (Nat.le_trans h.old.2.2 h.old.1))⟩
theorem Wki.turn{w wr w':World}{B:Nat}{F:Fix}{S:List Pl.Src}{vv:Value}{s s':Pl.Sr}{G R:Nat}{x:Pl.Sx}(h:Wki w wr B F S vv s G R x)(hs:SeAt w' B F S vv s')(hc:Cue B F wr w'):Wki w w' B F S vv s' G R x:=by
 have h1:=hc.keep G h.now.lt (fun e=>qae h.se.blk h.now qb1.symm e.symm) (qak h.now h.se.ends);have h2:=hc.keep R h.res.lt (fun e=>qae h.se.blk h.res qb1.symm e.symm) (qak h.res h.se.ends);exact⟨hs,h1.trans h.now,h2.trans h.res,h.ne,h.old,h.cue.trans hc,h.tabs.kept hc.below⟩
theorem q6b(m:Int)(s:ByteArray)(w:World)(hs:s.size≤4000000000000000000) :
  Calls Tryz.prog 169 #[.int .i64 m,.string s] w fun e w'=>e=.returned (.string ⟨(Pl.kept m s.data.toList).toArray⟩)∧w=w':=by
 have HI:=hd (fun w=>qhc m w);have HE:=hd (fun w=>qmb s (Pl.qbe m) w hs);have HR:=hd (fun w=>qk9 s w hs)
 have HK:Hid (Pl.kept m s.data.toList=_):=show Pl.kept m s.data.toList=(if Pl.qb7 m=true then(if Pl.qdy (Pl.qbe m) s.data.toList=0 then[] else s.data.toList)
  else if Pl.qht s.data.toList=true then[38] else if m=1∨m=19 then[] else if 2<s.data.toList.length then s.data.toList.drop (s.data.toList.length - 2) else s.data.toList) from rfl
 have ha:Pl.qbe m=decide (28≤m):=rfl;generalize Pl.qdy (Pl.qbe m) s.data.toList=l at HE HK;generalize Pl.qb7 m=I at HI HK;generalize Pl.qht s.data.toList=R at HR HK;rw[ha]at HE;clear ha;cases I
 ·cases R
  ·by_cases hm:m=1∨m=19
   ·have HV:Hid (Pl.kept m s.data.toList=[]):=by show _=_;rw[HK.out,if_neg (by simp),if_neg (by simp),if_pos hm]
    clear HK;rcases hm with rfl | rfl
    all_goals
     go_enter Tryz.func169,Tryz.ntmps169
     go_wp2_with (first | (go_at_call 69;refine(HI.out _).mono ?_;rintro e w' ⟨rfl,rfl⟩) | (go_at_call 68;refine(HR.out _).mono ?_;rintro e w' ⟨rfl,rfl⟩))
     go_ret
     exact⟨qdb (by rw[HV.out]),rfl⟩
   ·have m1:(m==1)=false:=beq_eq_false_iff_ne.2 (fun q=>hm (.inl q))
    have m2:(m==19)=false:=beq_eq_false_iff_ne.2 (fun q=>hm (.inr q));by_cases h2:2<s.size
    ·have HV:Hid (Pl.kept m s.data.toList=s.data.toList.drop (s.size - 2)):=by show _=_;rw[HK.out,if_neg (by simp),if_neg (by simp),if_neg hm,if_pos (by show 2<s.data.toList.length;exact h2)];rfl
     have hi:(2:Int)<(s.size:Int):=by omega
     clear HK hm;go_enter Tryz.func169,Tryz.ntmps169
     go_wp2_with (first | (go_at_call 69;refine(HI.out _).mono ?_;rintro e w' ⟨rfl,rfl⟩) | (go_at_call 68;refine(HR.out _).mono ?_;rintro e w' ⟨rfl,rfl⟩))
     go_ret
     exact⟨qdb (by rw[HV.out];exact Pl.extract_drop s _),rfl⟩
    ·have HV:Hid (Pl.kept m s.data.toList=s.data.toList):=by show _=_;rw[HK.out,if_neg (by simp),if_neg (by simp),if_neg hm,if_neg (by show ¬ 2<s.data.toList.length;exact h2)]
     clear HK hm;go_enter Tryz.func169,Tryz.ntmps169
     go_wp2_with (first | (go_at_call 69;refine(HI.out _).mono ?_;rintro e w' ⟨rfl,rfl⟩) | (go_at_call 68;refine(HR.out _).mono ?_;rintro e w' ⟨rfl,rfl⟩))
     go_ret
     exact⟨qdb (by rw[HV.out]),rfl⟩
  ·have HV:Hid (Pl.kept m s.data.toList=[38]):=by show _=_;rw[HK.out,if_neg (by simp),if_pos rfl]
   clear HK;go_enter Tryz.func169,Tryz.ntmps169
   go_wp2_with (first | (go_at_call 69;refine(HI.out _).mono ?_;rintro e w' ⟨rfl,rfl⟩) | (go_at_call 68;refine(HR.out _).mono ?_;rintro e w' ⟨rfl,rfl⟩))
   go_ret
   exact⟨qdb (by rw[HV.out]),rfl⟩
 ·by_cases hl:l=0
  ·have HV:Hid (Pl.kept m s.data.toList=[]):=by show _=_;rw[HK.out,if_pos rfl,if_pos hl]
   subst hl;clear HK;go_enter Tryz.func169,Tryz.ntmps169
   go_wp2_with (first | (go_at_call 69;refine(HI.out _).mono ?_;rintro e w' ⟨rfl,rfl⟩) | (go_at_call 70;refine(HE.out _).mono ?_;rintro e w' ⟨rfl,rfl⟩))
   go_ret
   exact⟨qdb (by rw[HV.out]),rfl⟩
  ·have HV:Hid (Pl.kept m s.data.toList=s.data.toList):=by show _=_;rw[HK.out,if_pos rfl,if_neg hl]
   have Ha:(l==0)=false:=beq_eq_false_iff_ne.2 hl;clear HK hl;go_enter Tryz.func169,Tryz.ntmps169
   go_wp2_with (first | (go_at_call 69;refine(HI.out _).mono ?_;rintro e w' ⟨rfl,rfl⟩) | (go_at_call 70;refine(HE.out _).mono ?_;rintro e w' ⟨rfl,rfl⟩))
   go_ret
   exact⟨qdb (by rw[HV.out]),rfl⟩
theorem qr0(f:Int)(b:UInt8)(w:World) :
  Calls Tryz.prog 173 #[.int .i64 f,.int .u8 b.toNat] w fun e w'=>e=.returned (.int .i64 (Pl.qcq f b))∧w=w':=by
 by_cases ha:b=47
 ·subst ha
  have HV:Hid (Pl.qcq f 47=1):=by show _=_;unfold Pl.qcq;simp
  go_enter Tryz.func173,Tryz.ntmps173
  go_wp2
  go_ret
  exact⟨qan (by rw[HV.out]),rfl⟩
 have e47:((b.toNat:Int)==47)=false:=(Pl.qh3 b 47 (by omega)).trans (by rw[beq_eq_false_iff_ne];exact ha);by_cases Ha:b=63
 ·subst Ha
  have HV:Hid (Pl.qcq f 63=1):=by show _=_;unfold Pl.qcq;simp
  go_enter Tryz.func173,Tryz.ntmps173
  go_wp2
  go_ret
  exact⟨qan (by rw[HV.out]),rfl⟩
 have e63:((b.toNat:Int)==63)=false:=(Pl.qh3 b 63 (by omega)).trans (by rw[beq_eq_false_iff_ne];exact Ha);by_cases hb:b=35
 ·subst hb
  have HV:Hid (Pl.qcq f 35=1):=by show _=_;unfold Pl.qcq;simp
  go_enter Tryz.func173,Tryz.ntmps173
  go_wp2
  go_ret
  exact⟨qan (by rw[HV.out]),rfl⟩
 have e35:((b.toNat:Int)==35)=false:=(Pl.qh3 b 35 (by omega)).trans (by rw[beq_eq_false_iff_ne];exact hb);by_cases Hb:b=58∧¬f=4
 ·obtain⟨rfl,h4⟩:=Hb
  have hc:(f != 4)=true:=by rw[bne_iff_ne];exact h4
  have HV:Hid (Pl.qcq f 58=1):=by show _=_;unfold Pl.qcq;simp[hc]
  clear h4;go_enter Tryz.func173,Tryz.ntmps173
  go_wp2
  go_ret
  exact⟨qan (by rw[HV.out]),rfl⟩
 have hF:Pl.qcq f b=if f=2 then 3 else f:=by
  unfold Pl.qcq;rw[if_neg];simp only[Bool.or_eq_true,beq_iff_eq,Bool.and_eq_true,bne_iff_ne,ne_eq,not_or];exact⟨ha,Ha,hb,Hb⟩
 have e58:(((b.toNat:Int)==58)=false)∨(((b.toNat:Int)==58)=true∧f=4):=by
  by_cases q:b=58
  ·right
   refine⟨(Pl.qh3 b 58 (by omega)).trans (by rw[beq_iff_eq];exact q),?_⟩;exact Decidable.byContradiction fun r=>Hb ⟨q,r⟩
  ·left;exact(Pl.qh3 b 58 (by omega)).trans (by rw[beq_eq_false_iff_ne];exact q)
 clear ha Ha hb Hb;rcases e58 with e58 | ⟨e58,rfl⟩
 ·by_cases h2:f=2
  ·have HV:Hid (Pl.qcq f b=3):=by show _=_;rw[hF,if_pos h2]
   clear hF;subst h2;go_enter Tryz.func173,Tryz.ntmps173
   go_wp2
   go_ret
   exact⟨qan (by rw[HV.out]),rfl⟩
  ·have HV:Hid (Pl.qcq f b=f):=by show _=_;rw[hF,if_neg h2]
   have Hc:(f==2)=false:=beq_eq_false_iff_ne.2 h2;clear hF h2;go_enter Tryz.func173,Tryz.ntmps173
   go_wp2
   go_ret
   exact⟨qan (by rw[HV.out]),rfl⟩
 ·have HV:Hid (Pl.qcq 4 b=4):=by show _=_;rw[hF];rfl
  clear hF;go_enter Tryz.func173,Tryz.ntmps173
  go_wp2
  go_ret
  exact⟨qan (by rw[HV.out]),rfl⟩
theorem q4e(n:List UInt8):Pl.qco n=if(Pl.qd0==n)=true then 1 else if(Pl.qgm==n)=true then 2 else if(Pl.qcs==n)=true then 3 else if(Pl.qcv==n)=true then 4 else 0:=by
 have e:∀l:List UInt8,(n=l)=((l==n)=true):=fun l=>propext (by rw[beq_iff_eq];exact eq_comm);unfold Pl.qco;simp only[e]
def qgq:Obj:=.cells #[.string ⟨#[116,105,116,108,101]⟩,.string ⟨#[116,101,120,116,97,114,101,97]⟩,.string ⟨#[115,99,114,105,112,116]⟩,.string ⟨#[115,116,121,108,101]⟩] 9
theorem qsx(n:List UInt8)(w:World) :
  Calls Tryz.prog 65 #[.string ⟨n.toArray⟩] w fun e w'=>e=.returned (.int .i64 (Pl.qco n:Nat))∧w.alloc qgq=w':=by
 have HE:=hd (q4e n);unfold qgq;go_enter Tryz.func65,Tryz.ntmps65
 go_wp2
 go_loop [4] (fun i=>∃k:Nat,k≤4∧i=.int .i64 k∧(1≤k→(Pl.qd0==n)=false)∧(2≤k→(Pl.qgm==n)=false)∧(3≤k→(Pl.qcs==n)=false)∧(4≤k→(Pl.qcv==n)=false)) (fun i=>4 - (intOf i).toNat)
 case atStart=>exact⟨0,by omega,rfl,by omega,by omega,by omega,by omega⟩
 case round=>
  obtain⟨k,hk,rfl,h1,h2,h3,h4⟩:=hrel;have H1:Hid (1≤k→(Pl.qd0==n)=false):=h1;have H2:Hid (2≤k→(Pl.qgm==n)=false):=h2;have H3:Hid (3≤k→(Pl.qcs==n)=false):=h3;have H4:Hid (4≤k→(Pl.qcv==n)=false):=h4;clear h1 h2 h3 h4;rcases(show k=0∨k=1∨k=2∨k=3∨k=4 by omega)with rfl | rfl | rfl | rfl | rfl
  ·by_cases hq:([116,105,116,108,101]==n)=true
   ·have HV:Hid (Pl.qco n=1):=by show _=_;rw[HE.out,if_pos (show (Pl.qd0==n)=true from hq)]
    go_wp2
    go_ret
    exact⟨qan (by rw[HV.out];rfl),rfl⟩
   ·have hq:=Bool.eq_false_iff.2 hq
    have HQ:Hid ((Pl.qd0==n)=false):=hq;go_wp2
    go_round
    case rel=>exact⟨1,by omega,rfl,fun _=>HQ.out,by omega,by omega,by omega⟩
    case measure=>simp[intOf]
  ·by_cases hq:([116,101,120,116,97,114,101,97]==n)=true
   ·have HV:Hid (Pl.qco n=2):=by show _=_;rw[HE.out,H1.out (by omega),if_neg (by simp),if_pos (show (Pl.qgm==n)=true from hq)]
    go_wp2
    go_ret
    exact⟨qan (by rw[HV.out];rfl),rfl⟩
   ·have hq:=Bool.eq_false_iff.2 hq
    have HQ:Hid ((Pl.qgm==n)=false):=hq;go_wp2
    go_round
    case rel=>exact⟨2,by omega,rfl,fun _=>H1.out (by omega),fun _=>HQ.out,by omega,by omega⟩
    case measure=>simp[intOf]
  ·by_cases hq:([115,99,114,105,112,116]==n)=true
   ·have HV:Hid (Pl.qco n=3):=by show _=_;rw[HE.out,H1.out (by omega),if_neg (by simp),H2.out (by omega),if_neg (by simp),if_pos (show (Pl.qcs==n)=true from hq)]
    go_wp2
    go_ret
    exact⟨qan (by rw[HV.out];rfl),rfl⟩
   ·have hq:=Bool.eq_false_iff.2 hq
    have HQ:Hid ((Pl.qcs==n)=false):=hq;go_wp2
    go_round
    case rel=>exact⟨3,by omega,rfl,fun _=>H1.out (by omega),fun _=>H2.out (by omega),fun _=>HQ.out,by omega⟩
    case measure=>simp[intOf]
  ·by_cases hq:([115,116,121,108,101]==n)=true
   ·have HV:Hid (Pl.qco n=4):=by show _=_;rw[HE.out,H1.out (by omega),if_neg (by simp),H2.out (by omega),if_neg (by simp),H3.out (by omega),if_neg (by simp),if_pos (show (Pl.qcv==n)=true from hq)]
    go_wp2
    go_ret
    exact⟨qan (by rw[HV.out];rfl),rfl⟩
   ·have hq:=Bool.eq_false_iff.2 hq
    have HQ:Hid ((Pl.qcv==n)=false):=hq;go_wp2
    go_round
    case rel=>exact⟨4,by omega,rfl,fun _=>H1.out (by omega),fun _=>H2.out (by omega),fun _=>H3.out (by omega),fun _=>HQ.out⟩
    case measure=>simp[intOf]
  ·have HV:Hid (Pl.qco n=0):=by show _=_;rw[HE.out,H1.out (by omega),if_neg (by simp),H2.out (by omega),if_neg (by simp),H3.out (by omega),if_neg (by simp),H4.out (by omega),if_neg (by simp)]
   go_wp2
   go_ret
   exact⟨qan (by rw[HV.out];rfl),rfl⟩
theorem qu7(n:List UInt8):(Pl.qco n=0∧Pl.qav n=1)∨(Pl.qco n=1∧Pl.qav n=19)∨(Pl.qco n=2∧Pl.qav n=19)∨(Pl.qco n=3∧Pl.qav n=20)∨(Pl.qco n=4∧Pl.qav n=28):=by
 unfold Pl.qco Pl.qav;by_cases h1:n=Pl.qd0
 ·rw[if_pos h1,if_pos h1];simp
 rw[if_neg h1,if_neg h1];by_cases h2:n=Pl.qgm
 ·rw[if_pos h2,if_pos h2];simp
 rw[if_neg h2,if_neg h2];by_cases h3:n=Pl.qcs
 ·rw[if_pos h3,if_pos h3];simp
 rw[if_neg h3,if_neg h3];by_cases h4:n=Pl.qcv
 ·rw[if_pos h4,if_pos h4];simp
 rw[if_neg h4,if_neg h4];simp
theorem q3o(n:List UInt8)(w:World) :
  Calls Tryz.prog 171 #[.string ⟨n.toArray⟩] w fun e w'=>e=.returned (.int .i64 (Pl.qav n:Nat))∧Below w.heap.size w w':=by
 have hE:=fun w=>qsx n w;have hC:=qu7 n;generalize Pl.qav n=c at hC ⊢;generalize Pl.qco n=k at hC hE;unfold qgq at hE;rcases hC with ⟨rfl,rfl⟩ | ⟨rfl,rfl⟩ | ⟨rfl,rfl⟩ | ⟨rfl,rfl⟩ | ⟨rfl,rfl⟩
 all_goals
  have HE:=hd hE;clear hE;go_enter Tryz.func171,Tryz.ntmps171
  go_wp2_with (go_at_call 65;refine(HE.out _).mono ?_;rintro e w' ⟨rfl,rfl⟩)
  go_ret
  exact⟨rfl,by repeat (first | exact Below.refl _ _ | refine Below.alloc ?_ (by simp<;>omega) _ | apply Below.drew)⟩
def qag(p:Pl.Sp):Array Value:=#[.int .i64 p.mode,.string ⟨p.tag.toArray⟩,.string ⟨p.attr.toArray⟩,.string ⟨p.inside.toArray⟩,.string ⟨p.run.toArray⟩,.int .i64 p.far]
def qat(p:Pl.Sp):Value:=.agg (qag p)
structure SpAt(w:World)(g:Nat)(p:Pl.Sp):Prop where
 mode:w.cell? ⟨g,0,none⟩=some (.int .i64 p.mode)
 tag:w.cell? ⟨g,1,none⟩=some (.string ⟨p.tag.toArray⟩)
 attr:w.cell? ⟨g,2,none⟩=some (.string ⟨p.attr.toArray⟩)
 inside:w.cell? ⟨g,3,none⟩=some (.string ⟨p.inside.toArray⟩)
 run:w.cell? ⟨g,4,none⟩=some (.string ⟨p.run.toArray⟩)
 far:w.cell? ⟨g,5,none⟩=some (.int .i64 p.far)
theorem q75{w:World}{g:Nat}{p:Pl.Sp}{t:TypeId}{fz:Nat×Nat}(h:w.heap[g]?=some (.cells (qag p) t fz)):SpAt w g p:=
 ⟨qaa h 0 _ rfl,qaa h 1 _ rfl,qaa h 2 _ rfl,qaa h 3 _ rfl,qaa h 4 _ rfl,qaa h 5 _ rfl⟩
theorem qqd(w:World)(p:Pl.Sp)(t:TypeId):SpAt (w.alloc (.cells (qag p) t)) w.heap.size p:=q75 (heap_alloc_new w _)
theorem SpAt.kept{w w':World}{B g:Nat}{p:Pl.Sp}(h:SpAt w g p)(hb:Below B w w')(hB:g<B):SpAt w' g p:=
 ⟨(hb.cell (p:=⟨g,0,none⟩) hB).trans h.mode,(hb.cell (p:=⟨g,1,none⟩) hB).trans h.tag,(hb.cell (p:=⟨g,2,none⟩) hB).trans h.attr,(hb.cell (p:=⟨g,3,none⟩) hB).trans h.inside,(hb.cell (p:=⟨g,4,none⟩) hB).trans h.run,(hb.cell (p:=⟨g,5,none⟩) hB).trans h.far⟩
def qiz(l e:List UInt8)(k i:Nat):Bool:=((l.drop k).take i).map Pl.qcr==e.take i
theorem qwi(l e:List UInt8)(k i:Nat)(hl:k+i<l.length)(he:i<e.length):qiz l e k (i+1)=(qiz l e k i && Pl.qcr l[k+i]==e[i]):=by
 unfold qiz;rw[List.take_succ_eq_append_getElem (by rw[List.length_drop];omega),List.take_succ_eq_append_getElem he,List.map_append,List.getElem_drop];rw[Bool.eq_iff_iff,beq_iff_eq,Bool.and_eq_true,beq_iff_eq,beq_iff_eq];constructor
 ·intro h
  have:=List.append_inj h (by rw[List.length_map,List.length_take,List.length_take,List.length_drop];omega);exact⟨this.1,by simpa using this.2⟩
 ·rintro⟨h1,h2⟩
  rw[h1,←h2];rfl
theorem q8b{l e:List UInt8}{n:Nat}(h:l.length<n+1):Pl.qbp l e (n+1)=Pl.qbp l e n:=by
 show (if Pl.qf3 l e (n+1)=true then _ else _)=_;rw[if_neg];unfold Pl.qf3;simp;omega
theorem q91{l e:List UInt8}{n:Nat}(h:n+1≤l.length)(hs:qiz l e (l.length - (n+1)) (n+1)=true):Pl.qbp l e (n+1)=n+1:=by
 show (if Pl.qf3 l e (n+1)=true then _ else _)=_;rw[if_pos];unfold Pl.qf3;unfold qiz at hs;rw[List.take_of_length_le (by rw[List.length_drop];omega)]at hs;rw[hs,decide_eq_true h];rfl
theorem q8c{l e:List UInt8}{n:Nat}(h:n+1≤l.length)(hs:qiz l e (l.length - (n+1)) (n+1)=false):Pl.qbp l e (n+1)=Pl.qbp l e n:=by
 show (if Pl.qf3 l e (n+1)=true then _ else _)=_;rw[if_neg];unfold Pl.qf3;unfold qiz at hs;rw[List.take_of_length_le (by rw[List.length_drop];omega)]at hs;rw[hs,Bool.and_false];simp
theorem qyk(p:Pl.Sp)(w:World)(ht:p.tag.length≤1000)(hi:p.inside.length≤1000) :
  Calls Tryz.prog 66 #[qat p] w fun e w'=>e=.returned (.int .i64 (p.read:Nat))∧Below w.heap.size w w':=by
 have Hc:(ByteArray.mk p.tag.toArray).size=p.tag.length:=by simp[ByteArray.size]
 have Hb:(ByteArray.mk p.inside.toArray).size=p.inside.length:=by simp[ByteArray.size]
 have hE:(ByteArray.mk #[60,47]++ByteArray.mk p.tag.toArray)=⟨(Pl.qcm p.tag).toArray⟩:=by apply ByteArray.ext;simp[Pl.qcm]
 have he:(Pl.qcm p.tag).length≤1002:=by simp[Pl.qcm];omega
 have He:(ByteArray.mk (Pl.qcm p.tag).toArray).size=(Pl.qcm p.tag).length:=by simp[ByteArray.size]
 have HV:Hid (p.read=Pl.qbp p.inside (Pl.qcm p.tag) (Pl.qcm p.tag).length):=rfl;generalize p.read=R at HV ⊢;unfold qat qag;have ha:=qqd w p 94;unfold qag at ha;go_enter Tryz.func66,Tryz.ntmps66
 go_wp2_with fail
 clear hE;generalize Pl.qcm p.tag=E at HV he He ⊢;have hq:=ha.inside;generalize p.inside=L at Hb hi HV hq ⊢;have hb:Below w.heap.size w (w.alloc (.cells #[.int .i64 p.mode,.string ⟨p.tag.toArray⟩,.string ⟨p.attr.toArray⟩,.string ⟨L.toArray⟩,.string ⟨p.run.toArray⟩,.int .i64 p.far] 94)):=ba _;generalize (w.alloc _)=W at hq hb ⊢;generalize hG:w.heap.size=G at hq ⊢;clear Hc ht ha;go_loopw [4] (fun i wr=>∃n:Nat,n≤E.length∧i=.int .i64 n∧Hid (R=Pl.qbp L E n)∧∃m,wr=W.drewN m) (fun i _=>(intOf i).toNat)
 case atStart=>exact⟨E.length,Nat.le_refl _,rfl,HV,0,rfl⟩
 case round=>
  obtain⟨n,hn,rfl,HN,m,rfl⟩:=hrel;clear HV
  match n,hn with
  | 0,_=>
    go_wp2
    go_ret
    exact⟨qan (by rw[HN.out];rfl),qaz hb _⟩
  | n+1,hn=>
    have c1:(0:Int)<(n:Int)+1:=by omega
    have cc:((n+1:Nat):Int)=(n:Int)+1:=by omega
    rw[cc];by_cases hf:L.length<n+1
    ·have d1:(L.length:Int) - ((n:Int)+1)<0:=by omega
     have d0:(n:Int)+1 - 1=(n:Int):=by omega
     go_wp2_with fail
     go_roundw
     case rel=>
      refine⟨n,by omega,rfl,?_,m,rfl⟩;show _=_;rw[HN.out,q8b hf]
     case measure=>simp[intOf]
    ·have d1:decide ((L.length:Int) - ((n:Int)+1)<0)=false:=by rw[decide_eq_false_iff_not];omega
     have d0:(n:Int)+1 - 1=(n:Int):=by omega
     go_wp2_with fail
     obtain⟨K,hK⟩:∃K,L.length=K+(n+1):=⟨L.length - (n+1),by omega⟩;have eK:(L.length:Int) - ((n:Int)+1)=(K:Int):=by omega
     have hc:L.length - (n+1)=K:=by omega
     rw[eK];clear d1 eK;have HK:=hd hK;clear hK;go_hide hQ
     have HQ:=hd hQ;clear hQ;go_loopw [6,7] (fun sm i wr=>∃i':Nat,i'≤n+1∧i=.int .i64 i'∧sm=.bool (qiz L E K i')∧Hid (∃m',wr=W.drewN m')) (fun _ i _=>n+1 - (intOf i).toNat)
     case atStart=>exact⟨0,Nat.zero_le _,rfl,by simp[qiz],⟨m,rfl⟩⟩
     case round=>
      obtain⟨i',hg,rfl,rfl,HW⟩:=hrel;have Hg:wr.cell? ⟨G,3,none⟩=some (.string ⟨L.toArray⟩):=by obtain⟨m',e⟩:=HW.out;rw[e];exact hq
      have Hf:Below w.heap.size w wr:=by obtain⟨m',e⟩:=HW.out;rw[e];exact qaz hb _
      by_cases Hi:i'<n+1
      ·have Ha:(i':Int)<(n:Int)+1:=by omega
       have l1:K+i'<L.length:=by have:=HK.out;omega
       have l2:i'<E.length:=by omega
       have HS:=hd (qwi L E K i' l1 l2);by_cases hs:qiz L E K i'=true
       ·have b1:(K:Int)+(i':Int)<(L.length:Int):=by omega
        have b2:(0:Int)≤(K:Int)+(i':Int):=by omega
        have b3:((K:Int)+(i':Int)).toNat=K+i':=by omega
        have b4:(i':Int)<(E.length:Int):=by omega
        have b5:K+i'≤1000:=by omega
        have b6:i'≤1002:=by omega
        have bw:IntKind.i64.wrap ((K:Int)+(i':Int))=(K:Int)+(i':Int):=by rw[IntKind.wrap_i64];omega
        rw[hs];have HB:=hd hs;clear hs;go_wp2_with fail
        go_quiet ((go_at_call 101;refine qqj (qgt ((ByteArray.mk L.toArray)[K+i']'(by rw[Hb];exact l1)) _)))
        go_wp2
        go_roundw
        case rel=>exact⟨i'+1,by omega,by go_num,by rw[HS.out,HB.out,Bool.true_and];exact congrArg Value.bool (Pl.beq8 _ _),by obtain⟨m',e⟩:=HW.out;exact⟨m'+nq,by rw[e];simp[World.drewN,Nat.add_assoc]⟩⟩
        case measure=>simp[intOf];omega
       ·have hs:=Bool.eq_false_iff.2 hs
        rw[hs];have HB:=hd hs;clear hs;go_wp2_with fail
        go_quiet (fail)
        go_wp2
        go_roundw
        case rel=>exact⟨i'+1,by omega,by go_num,by rw[HS.out,HB.out];rfl,by obtain⟨m',e⟩:=HW.out;exact⟨m'+nq,by rw[e];simp[World.drewN,Nat.add_assoc]⟩⟩
        case measure=>simp[intOf];omega
      ·have Ha:decide ((i':Int)<(n:Int)+1)=false:=by rw[decide_eq_false_iff_not];omega
       obtain rfl:i'=n+1:=by omega
       by_cases hs:qiz L E K (n+1)=true
       ·have HF:Hid (R=n+1):=by show _=_;rw[HN.out];exact q91 (by have:=HK.out;omega) (by rw[hc];exact hs)
        rw[hs];clear hs;go_wp2_with fail
        rw[←HQ.out];go_wp2_with fail
        go_ret
        exact⟨qan (by rw[HF.out];rfl),Hf⟩
       ·have hs:=Bool.eq_false_iff.2 hs
        have HF:Hid (R=Pl.qbp L E n):=by show _=_;rw[HN.out];exact q8c (by have:=HK.out;omega) (by rw[hc];exact hs)
        rw[hs];clear hs;go_wp2_with fail
        rw[←HQ.out];go_wp2_with fail
        go_roundw
        case rel=>exact⟨n,by omega,rfl,HF,HW.out⟩
        case measure=>simp[intOf]
theorem pre2(n:List UInt8)(h:2≤n.length):(n.take 2==[111,110])=true↔[111,110] <+: n:=by
 rw[beq_iff_eq];constructor
 ·intro q
  rw[←q];exact List.take_prefix _ _
 ·rintro⟨t,rfl⟩;rfl
theorem qsj{n:List UInt8}(h:(n==[115,116,121,108,101])=true):Pl.qbt n=3:=by
 rw[beq_iff_eq]at h;unfold Pl.qbt;rw[if_pos (.inl h)]
theorem q00{n:List UInt8}(h:[111,110] <+: n):Pl.qbt n=3:=by unfold Pl.qbt;rw[if_pos (.inr h)]
theorem qdt{n:List UInt8}(h:(n==[115,116,121,108,101])=false)(h':¬ [111,110] <+: n):Pl.qbt n=if n=[104,114,101,102]∨n=[115,114,99]∨n=[97,99,116,105,111,110] then 2 else 1:=by
 rw[beq_eq_false_iff_ne]at h;unfold Pl.qbt;rw[if_neg (fun q=>q.elim h h')]
theorem q58(n:List UInt8)(w:World)(hn:n.length≤1000) :
  Calls Tryz.prog 67 #[.string ⟨n.toArray⟩] w fun e w'=>e=.returned (.int .i64 (Pl.qbt n))∧w=w':=by
 have hz:(ByteArray.mk n.toArray).size=n.length:=by simp[ByteArray.size]
 by_cases h1:(n==[115,116,121,108,101])=true
 ·have HV:Hid (Pl.qbt n=3):=qsj h1
  go_enter Tryz.func67,Tryz.ntmps67
  go_wp2
  go_ret
  exact⟨qan (by rw[HV.out]),rfl⟩
 ·have h1:=Bool.eq_false_iff.2 h1
  by_cases h2:1<n.length
  ·have ha:(1:Int)<(n.length:Int):=by omega
   have he:(ByteArray.mk n.toArray).extract 0 2=⟨(n.take 2).toArray⟩:=Pl.extract_take _ _;by_cases h3:(n.take 2==[111,110])=true
   ·have HV:Hid (Pl.qbt n=3):=q00 ((pre2 n (by omega)).1 h3)
    go_enter Tryz.func67,Tryz.ntmps67
    go_wp2_with fail
    go_ret
    exact⟨qan (by rw[HV.out]),rfl⟩
   ·have HP:=hd (fun q=>h3 ((pre2 n (by omega)).2 q))
    have h3:=Bool.eq_false_iff.2 h3;by_cases a1:(n==[104,114,101,102])=true
    ·have HV:Hid (Pl.qbt n=2):=by show _=_;rw[qdt h1 HP.out,if_pos (.inl (beq_iff_eq.1 a1))]
     go_enter Tryz.func67,Tryz.ntmps67
     go_wp2_with fail
     go_ret
     exact⟨qan (by rw[HV.out]),rfl⟩
    ·have a1:=Bool.eq_false_iff.2 a1
     by_cases a2:(n==[115,114,99])=true
     ·have HV:Hid (Pl.qbt n=2):=by show _=_;rw[qdt h1 HP.out,if_pos (.inr (.inl (beq_iff_eq.1 a2)))]
      go_enter Tryz.func67,Tryz.ntmps67
      go_wp2_with fail
      go_ret
      exact⟨qan (by rw[HV.out]),rfl⟩
     ·have a2:=Bool.eq_false_iff.2 a2
      by_cases a3:(n==[97,99,116,105,111,110])=true
      ·have HV:Hid (Pl.qbt n=2):=by show _=_;rw[qdt h1 HP.out,if_pos (.inr (.inr (beq_iff_eq.1 a3)))]
       go_enter Tryz.func67,Tryz.ntmps67
       go_wp2_with fail
       go_ret
       exact⟨qan (by rw[HV.out]),rfl⟩
      ·have a3:=Bool.eq_false_iff.2 a3
       have HV:Hid (Pl.qbt n=1):=by show _=_;rw[qdt h1 HP.out,if_neg (fun q=>q.elim (fun z=>by rw[beq_iff_eq.2 z]at a1;cases a1) (fun q=>q.elim (fun z=>by rw[beq_iff_eq.2 z]at a2;cases a2) (fun z=>by rw[beq_iff_eq.2 z]at a3;cases a3)))]
       go_enter Tryz.func67,Tryz.ntmps67
       go_wp2_with fail
       go_ret
       exact⟨qan (by rw[HV.out]),rfl⟩
  ·have ha:decide ((1:Int)<(n.length:Int))=false:=by rw[decide_eq_false_iff_not];omega
   have HP:Hid (¬ [111,110] <+: n):=by
    intro q;have:=q.length_le;simp at this;omega
   by_cases a1:(n==[104,114,101,102])=true
   ·have HV:Hid (Pl.qbt n=2):=by show _=_;rw[qdt h1 HP.out,if_pos (.inl (beq_iff_eq.1 a1))]
    go_enter Tryz.func67,Tryz.ntmps67
    go_wp2_with fail
    go_ret
    exact⟨qan (by rw[HV.out]),rfl⟩
   ·have a1:=Bool.eq_false_iff.2 a1
    by_cases a2:(n==[115,114,99])=true
    ·have HV:Hid (Pl.qbt n=2):=by show _=_;rw[qdt h1 HP.out,if_pos (.inr (.inl (beq_iff_eq.1 a2)))]
     go_enter Tryz.func67,Tryz.ntmps67
     go_wp2_with fail
     go_ret
     exact⟨qan (by rw[HV.out]),rfl⟩
    ·have a2:=Bool.eq_false_iff.2 a2
     by_cases a3:(n==[97,99,116,105,111,110])=true
     ·have HV:Hid (Pl.qbt n=2):=by show _=_;rw[qdt h1 HP.out,if_pos (.inr (.inr (beq_iff_eq.1 a3)))]
      go_enter Tryz.func67,Tryz.ntmps67
      go_wp2_with fail
      go_ret
      exact⟨qan (by rw[HV.out]),rfl⟩
     ·have a3:=Bool.eq_false_iff.2 a3
      have HV:Hid (Pl.qbt n=1):=by show _=_;rw[qdt h1 HP.out,if_neg (fun q=>q.elim (fun z=>by rw[beq_iff_eq.2 z]at a1;cases a1) (fun q=>q.elim (fun z=>by rw[beq_iff_eq.2 z]at a2;cases a2) (fun z=>by rw[beq_iff_eq.2 z]at a3;cases a3)))]
      go_enter Tryz.func67,Tryz.ntmps67
      go_wp2_with fail
      go_ret
      exact⟨qan (by rw[HV.out]),rfl⟩
theorem qyo(l:List UInt8)(b:UInt8):Pl.qg8 (l++[b])=if b=37 then 2 else Pl.pct1 b l.reverse:=by
 unfold Pl.qg8;rw[List.reverse_append];rfl
theorem qq6(s:ByteArray)(K:Nat)(h:s.size=K+1):s.data.toList=s.data.toList.take K++[s[K]'(by omega)]:=by
 rw[←Pl.qd1 s K (by omega),Pl.qer s (K+1) (by omega)]
theorem qt0(w:World)(s:ByteArray)(h:s.size=0) :
  Calls Tryz.prog 71 #[.string s] w fun e w'=>e=.returned (.int .i64 (Pl.qg8 s.data.toList))∧w=w':=by
 have HV:Hid (Pl.qg8 s.data.toList=0):=by
  have:s.data.toList=[]:=List.eq_nil_of_length_eq_zero (by simpa using h);show _=_;rw[this];rfl
 have h1:(s.size:Int)=0:=by omega
 go_enter Tryz.func71,Tryz.ntmps71
 go_wp2
 go_ret
 exact⟨qan (by rw[HV.out]),rfl⟩
theorem qww(w:World)(s:ByteArray)(h:s.size=1) :
  Calls Tryz.prog 71 #[.string s] w fun e w'=>e=.returned (.int .i64 (Pl.qg8 s.data.toList))∧w=w':=by
 have HV:Hid (Pl.qg8 s.data.toList=if s[0]=37 then 2 else 0):=by
  have:=qq6 s 0 (by omega);show _=_;rw[this,qyo];simp[Pl.pct1]
 have h1:(s.size:Int)=1:=by omega
 by_cases hb:s[0]=37
 ·have ha:((s[0].toNat:Int)==37)=true:=by rw[hb];rfl
  rw[if_pos hb]at HV;clear hb;go_enter Tryz.func71,Tryz.ntmps71
  go_wp2
  go_ret
  exact⟨qan (by rw[HV.out]),rfl⟩
 ·have ha:((s[0].toNat:Int)==37)=false:=(Pl.qh3 s[0] 37 (by omega)).trans (beq_eq_false_iff_ne.2 hb)
  rw[if_neg hb]at HV;clear hb;go_enter Tryz.func71,Tryz.ntmps71
  go_wp2
  go_ret
  exact⟨qan (by rw[HV.out]),rfl⟩
theorem qt1(w:World)(s:ByteArray)(K:Nat)(h:s.size=K+2)(hs:s.size≤4000000000000000000) :
  Calls Tryz.prog 71 #[.string s] w fun e w'=>e=.returned (.int .i64 (Pl.qg8 s.data.toList))∧w=w':=by
 have HV:Hid (Pl.qg8 s.data.toList=if s[K+1]=37 then 2 else if s[K]=37∧Pl.among s[K+1] Pl.qa2=true then 1 else 0):=by
  have a:=qq6 s (K+1) (by omega);have b:=Pl.qd1 s K (by omega);show _=_;rw[a,qyo,b,List.reverse_append];rfl
 have d1:(s.size:Int) - 1=((K+1:Nat):Int):=by omega
 have d2:(s.size:Int) - 2=(K:Int):=by omega
 have p0:(0:Int)<(s.size:Int):=by omega
 have p1:(1:Int)<(s.size:Int):=by omega
 have Hb:K+1<s.size:=by omega
 have hk:K<s.size:=by omega
 have Hc:K+1≤4000000000000000000:=by omega
 by_cases hb:s[K+1]=37
 ·have ha:((s[K+1].toNat:Int)==37)=true:=by rw[hb];rfl
  rw[if_pos hb]at HV;clear hb;go_enter Tryz.func71,Tryz.ntmps71
  go_wp2_with fail
  go_ret
  exact⟨qan (by rw[HV.out]),rfl⟩
 ·have ha:((s[K+1].toNat:Int)==37)=false:=(Pl.qh3 s[K+1] 37 (by omega)).trans (beq_eq_false_iff_ne.2 hb)
  rw[if_neg hb]at HV;clear hb;by_cases hc:s[K]=37
  ·have Ha:((s[K].toNat:Int)==37)=true:=by rw[hc];rfl
   cases hx:Pl.among s[K+1] Pl.qa2
   ·rw[hx,if_neg (by simp)]at HV
    clear hc;go_enter Tryz.func71,Tryz.ntmps71
    go_wp2_with (go_at_call 80;refine(qdu s[K+1] _ Pl.qa2 _ rfl (by decide)).mono ?_;rintro e w' ⟨rfl,rfl⟩;rw[hx])
    go_ret
    exact⟨qan (by rw[HV.out]),rfl⟩
   ·rw[hx,if_pos ⟨hc,rfl⟩]at HV
    clear hc;go_enter Tryz.func71,Tryz.ntmps71
    go_wp2_with (go_at_call 80;refine(qdu s[K+1] _ Pl.qa2 _ rfl (by decide)).mono ?_;rintro e w' ⟨rfl,rfl⟩;rw[hx])
    go_ret
    exact⟨qan (by rw[HV.out]),rfl⟩
  ·have Ha:((s[K].toNat:Int)==37)=false:=(Pl.qh3 s[K] 37 (by omega)).trans (beq_eq_false_iff_ne.2 hc)
   rw[if_neg (fun q=>hc q.1)]at HV;clear hc;go_enter Tryz.func71,Tryz.ntmps71
   go_wp2_with fail
   go_ret
   exact⟨qan (by rw[HV.out]),rfl⟩
theorem qwx(s:ByteArray)(w:World)(hs:s.size≤4000000000000000000) :
  Calls Tryz.prog 71 #[.string s] w fun e w'=>e=.returned (.int .i64 (Pl.qg8 s.data.toList))∧w=w':=by
 by_cases h0:s.size=0
 ·exact qt0 w s h0
 by_cases h1:s.size=1
 ·exact qww w s h1
 ·exact qt1 w s (s.size - 2) (by omega) hs
end Go.Proofs.YtfkhljmiehdgmaaGreatDoor
