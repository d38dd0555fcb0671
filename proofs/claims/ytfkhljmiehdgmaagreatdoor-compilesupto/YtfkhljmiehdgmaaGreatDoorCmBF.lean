/-
  Steps of the proof.
-/
import Derived.Test.YtfkhljmiehdgmaaGreatDoorCmBC
set_option maxRecDepth 100000
set_option maxHeartbeats 40000000
namespace Go.Proofs.YtfkhljmiehdgmaaGreatDoor
open Go.RowKit
theorem q87(w:World)(B g:Nat)(t:List UInt8)(c:Pl.Ct)(vp vo:Value)(h:CtAt w B g t c vp vo)(a z:Nat)(ha:a<=t.length)(hz:z<=t.length)(ht:t.length<=2000)
  (X Y:ByteArray) (hT:∀w,Calls Tryz.prog 204 #[.string ((⟨t.toArray⟩:ByteArray).extract 0 a),.string ⟨#[9,12,13,32]⟩] w fun e w'=>e=.returned (.string X)/\Below w.heap.size w w')
  (hL:∀w,Calls Tryz.prog 196 #[.string ((⟨t.toArray⟩:ByteArray).extract z t.length),.string ⟨#[9,12,13,32]⟩] w fun e w'=>e=.returned (.string Y)/\Below w.heap.size w w')
  (P:ByteArray) (hP:∀w,Calls Tryz.prog 205 #[.string Y,.string ⟨#[10]⟩] w fun e w'=>e=.returned (.string P)/\w=w') (hc:P.size<=t.length)
  (hX:X.toList.isEmpty=true) (hY:Y.toList.isEmpty=true) :
  Calls Tryz.prog 151 #[.pointer (some ⟨g,0,none⟩),.int .i64 a,.int .i64 z] w fun e w'=>e=.returned (.tuple #[.int .i64 X.size,.int .i64 ((t.length:Int) - (P.size:Int))])/\Below w.heap.size w w':=by
 obtain⟨T,Ha⟩:∃T,T=(⟨t.toArray⟩:ByteArray):=⟨_,rfl⟩;have Hb:T.size=t.length:=by rw[Ha];simp[ByteArray.size]
 rw[<-Ha]at hT hL;have HT:=hd hT;have HL:=hd hL;have b0:=h.cell 0 _ rfl;unfold bs at b0;rw[<-Ha]at b0;have H:=hd h;clear hT hL h Ha;rw[<-Hb]at ha hz HL ht hc |-;have c1:(a:Int)<=(T.size:Int):=by omega
 have c2:(z:Int)<=(T.size:Int):=by omega
 have HP:=hd hP;clear hP;have w9:IntKind.i64.wrap ((T.size:Int) - (P.size:Int))=(T.size:Int) - (P.size:Int):=by rw[IntKind.wrap_i64];omega
 clear Hb;go_enter Tryz.func151,Tryz.ntmps151
 go_wp2_with (first
   |(go_at_call 204;refine Calls.mono (HT.out _) ?_;rintro e w1 ⟨rfl,hb⟩;have b1:w1.cell? ⟨g,0,none⟩=some (.string T):=(World.cell?_of_block (hb.block _ (CtAt.lt H.out))).trans b0;have Hc:=hd hb;clear hb)
   | (go_at_call 196;refine Calls.mono (HL.out _) ?_;rintro e w2 ⟨rfl,hb⟩;have b2:w2.cell? ⟨g,0,none⟩=some (.string T):=(World.cell?_of_block (hb.block _ (World.block_lt_of_cell? _ _ b1))).trans b1;have he:=hd hb;clear hb))
 go_region_with (first|(go_at_call 205;refine Calls.mono (HP.out _) ?_;rintro e w3 ⟨rfl,rfl⟩)|fail)
 all_goals
  go_wp2_with fail
  refine qoh Tryz.results151 rfl _ _ rfl rfl ?_;exact⟨by first|rfl|(rw[hn];rfl),by have h1:=Hc.out;have h2:=he.out;exact(h1.trans (h2.mono h1.size)).drew⟩
theorem q86(w:World)(B g:Nat)(t:List UInt8)(c:Pl.Ct)(vp vo:Value)(h:CtAt w B g t c vp vo)(a z:Nat)(ha:a<=t.length)(hz:z<=t.length)(ht:t.length<=2000)
  (X Y:ByteArray) (hT:∀w,Calls Tryz.prog 204 #[.string ((⟨t.toArray⟩:ByteArray).extract 0 a),.string ⟨#[9,12,13,32]⟩] w fun e w'=>e=.returned (.string X)/\Below w.heap.size w w')
  (hL:∀w,Calls Tryz.prog 196 #[.string ((⟨t.toArray⟩:ByteArray).extract z t.length),.string ⟨#[9,12,13,32]⟩] w fun e w'=>e=.returned (.string Y)/\Below w.heap.size w w')
  (P:ByteArray) (hP:∀w,Calls Tryz.prog 205 #[.string Y,.string ⟨#[10]⟩] w fun e w'=>e=.returned (.string P)/\w=w') (Hc:P.size<=t.length)
  (hX:X.toList.isEmpty=true) (hY:Y.toList.isEmpty=false) (hy:0<Y.size) (Hb:Y[0]=10) :
  Calls Tryz.prog 151 #[.pointer (some ⟨g,0,none⟩),.int .i64 a,.int .i64 z] w fun e w'=>e=.returned (.tuple #[.int .i64 X.size,.int .i64 ((t.length:Int) - (P.size:Int))])/\Below w.heap.size w w':=by
 obtain⟨T,Ha⟩:∃T,T=(⟨t.toArray⟩:ByteArray):=⟨_,rfl⟩;have hc:T.size=t.length:=by rw[Ha];simp[ByteArray.size]
 rw[<-Ha]at hT hL;have HT:=hd hT;have HL:=hd hL;have b0:=h.cell 0 _ rfl;unfold bs at b0;rw[<-Ha]at b0;have d2:(Y[0].toNat:Int)=10:=by rw[Hb];rfl
 have d3:(0:Int)<(Y.size:Int):=by omega
 clear Hb;have H:=hd h;clear hT hL h Ha;rw[<-hc]at ha hz HL ht Hc |-;have c1:(a:Int)<=(T.size:Int):=by omega
 have c2:(z:Int)<=(T.size:Int):=by omega
 have HP:=hd hP;clear hP;have w9:IntKind.i64.wrap ((T.size:Int) - (P.size:Int))=(T.size:Int) - (P.size:Int):=by rw[IntKind.wrap_i64];omega
 clear hc;go_enter Tryz.func151,Tryz.ntmps151
 go_wp2_with (first
   |(go_at_call 204;refine Calls.mono (HT.out _) ?_;rintro e w1 ⟨rfl,hb⟩;have b1:w1.cell? ⟨g,0,none⟩=some (.string T):=(World.cell?_of_block (hb.block _ (CtAt.lt H.out))).trans b0;have he:=hd hb;clear hb)
   | (go_at_call 196;refine Calls.mono (HL.out _) ?_;rintro e w2 ⟨rfl,hb⟩;have b2:w2.cell? ⟨g,0,none⟩=some (.string T):=(World.cell?_of_block (hb.block _ (World.block_lt_of_cell? _ _ b1))).trans b1;have He:=hd hb;clear hb))
 go_region_with (first|(go_at_call 205;refine Calls.mono (HP.out _) ?_;rintro e w3 ⟨rfl,rfl⟩)|fail)
 all_goals
  go_wp2_with fail
  refine qoh Tryz.results151 rfl _ _ rfl rfl ?_;exact⟨by first|rfl|(rw[hn];rfl),by have h1:=he.out;have h2:=He.out;exact(h1.trans (h2.mono h1.size)).drew⟩
theorem q84(w:World)(B g:Nat)(t:List UInt8)(c:Pl.Ct)(vp vo:Value)(h:CtAt w B g t c vp vo)(a z:Nat)(ha:a<=t.length)(hz:z<=t.length)(ht:t.length<=2000)
  (X Y:ByteArray) (hT:∀w,Calls Tryz.prog 204 #[.string ((⟨t.toArray⟩:ByteArray).extract 0 a),.string ⟨#[9,12,13,32]⟩] w fun e w'=>e=.returned (.string X)/\Below w.heap.size w w')
  (hL:∀w,Calls Tryz.prog 196 #[.string ((⟨t.toArray⟩:ByteArray).extract z t.length),.string ⟨#[9,12,13,32]⟩] w fun e w'=>e=.returned (.string Y)/\Below w.heap.size w w')
  (P:ByteArray) (hP:∀w,Calls Tryz.prog 205 #[.string Y,.string ⟨#[10]⟩] w fun e w'=>e=.returned (.string P)/\w=w') (Hc:P.size<=t.length)
  (hX:X.toList.isEmpty=false) (n:Nat) (hn:X.size=n+1) (hf:n<=100000) (hb:∀hh:n<X.size,X[n]'hh=10) (hY:Y.toList.isEmpty=true) :
  Calls Tryz.prog 151 #[.pointer (some ⟨g,0,none⟩),.int .i64 a,.int .i64 z] w fun e w'=>e=.returned (.tuple #[.int .i64 X.size,.int .i64 ((t.length:Int) - (P.size:Int))])/\Below w.heap.size w w':=by
 obtain⟨T,Ha⟩:∃T,T=(⟨t.toArray⟩:ByteArray):=⟨_,rfl⟩;have Hb:T.size=t.length:=by rw[Ha];simp[ByteArray.size]
 rw[<-Ha]at hT hL;have HT:=hd hT;have HL:=hd hL;have b0:=h.cell 0 _ rfl;unfold bs at b0;rw[<-Ha]at b0;have hc:n<X.size:=by omega
 have d1:((X[n]'hc).toNat:Int)=10:=by rw[hb hc];rfl
 have w1:IntKind.i64.wrap (n:Int)=n:=qh7 n (by omega);clear hb;have H:=hd h;clear hT hL h Ha;rw[<-Hb]at ha hz HL ht Hc |-;have c1:(a:Int)<=(T.size:Int):=by omega
 have c2:(z:Int)<=(T.size:Int):=by omega
 have HP:=hd hP;clear hP;have w9:IntKind.i64.wrap ((T.size:Int) - (P.size:Int))=(T.size:Int) - (P.size:Int):=by rw[IntKind.wrap_i64];omega
 clear Hb;go_enter Tryz.func151,Tryz.ntmps151
 go_wp2_with (first
   |(go_at_call 204;refine Calls.mono (HT.out _) ?_;rintro e w1 ⟨rfl,hb⟩;have b1:w1.cell? ⟨g,0,none⟩=some (.string T):=(World.cell?_of_block (hb.block _ (CtAt.lt H.out))).trans b0;have he:=hd hb;clear hb)
   | (go_at_call 196;refine Calls.mono (HL.out _) ?_;rintro e w2 ⟨rfl,hb⟩;have b2:w2.cell? ⟨g,0,none⟩=some (.string T):=(World.cell?_of_block (hb.block _ (World.block_lt_of_cell? _ _ b1))).trans b1;have He:=hd hb;clear hb))
 go_region_with (first|(go_at_call 205;refine Calls.mono (HP.out _) ?_;rintro e w3 ⟨rfl,rfl⟩)|fail)
 all_goals
  go_wp2_with fail
  refine qoh Tryz.results151 rfl _ _ rfl rfl ?_;exact⟨by first|rfl|(rw[hn];rfl),by have h1:=he.out;have h2:=He.out;exact(h1.trans (h2.mono h1.size)).drew⟩
theorem q83(w:World)(B g:Nat)(t:List UInt8)(c:Pl.Ct)(vp vo:Value)(h:CtAt w B g t c vp vo)(a z:Nat)(ha:a<=t.length)(hz:z<=t.length)(ht:t.length<=2000)
  (X Y:ByteArray) (hT:∀w,Calls Tryz.prog 204 #[.string ((⟨t.toArray⟩:ByteArray).extract 0 a),.string ⟨#[9,12,13,32]⟩] w fun e w'=>e=.returned (.string X)/\Below w.heap.size w w')
  (hL:∀w,Calls Tryz.prog 196 #[.string ((⟨t.toArray⟩:ByteArray).extract z t.length),.string ⟨#[9,12,13,32]⟩] w fun e w'=>e=.returned (.string Y)/\Below w.heap.size w w')
  (P:ByteArray) (hP:∀w,Calls Tryz.prog 205 #[.string Y,.string ⟨#[10]⟩] w fun e w'=>e=.returned (.string P)/\w=w') (he:P.size<=t.length)
  (hX:X.toList.isEmpty=false) (n:Nat) (hn:X.size=n+1) (Hf:n<=100000) (hb:∀hh:n<X.size,X[n]'hh=10) (hY:Y.toList.isEmpty=false) (hy:0<Y.size) (Hb:Y[0]=10) :
  Calls Tryz.prog 151 #[.pointer (some ⟨g,0,none⟩),.int .i64 a,.int .i64 z] w fun e w'=>e=.returned (.tuple #[.int .i64 X.size,.int .i64 ((t.length:Int) - (P.size:Int))])/\Below w.heap.size w w':=by
 obtain⟨T,Ha⟩:∃T,T=(⟨t.toArray⟩:ByteArray):=⟨_,rfl⟩;have hc:T.size=t.length:=by rw[Ha];simp[ByteArray.size]
 rw[<-Ha]at hT hL;have HT:=hd hT;have HL:=hd hL;have b0:=h.cell 0 _ rfl;unfold bs at b0;rw[<-Ha]at b0;have Hc:n<X.size:=by omega
 have d1:((X[n]'Hc).toNat:Int)=10:=by rw[hb Hc];rfl
 have w1:IntKind.i64.wrap (n:Int)=n:=qh7 n (by omega);clear hb;have d2:(Y[0].toNat:Int)=10:=by rw[Hb];rfl
 have d3:(0:Int)<(Y.size:Int):=by omega
 clear Hb;have H:=hd h;clear hT hL h Ha;rw[<-hc]at ha hz HL ht he |-;have c1:(a:Int)<=(T.size:Int):=by omega
 have c2:(z:Int)<=(T.size:Int):=by omega
 have HP:=hd hP;clear hP;have w9:IntKind.i64.wrap ((T.size:Int) - (P.size:Int))=(T.size:Int) - (P.size:Int):=by rw[IntKind.wrap_i64];omega
 clear hc;go_enter Tryz.func151,Tryz.ntmps151
 go_wp2_with (first
   |(go_at_call 204;refine Calls.mono (HT.out _) ?_;rintro e w1 ⟨rfl,hb⟩;have b1:w1.cell? ⟨g,0,none⟩=some (.string T):=(World.cell?_of_block (hb.block _ (CtAt.lt H.out))).trans b0;have He:=hd hb;clear hb)
   | (go_at_call 196;refine Calls.mono (HL.out _) ?_;rintro e w2 ⟨rfl,hb⟩;have b2:w2.cell? ⟨g,0,none⟩=some (.string T):=(World.cell?_of_block (hb.block _ (World.block_lt_of_cell? _ _ b1))).trans b1;have hf:=hd hb;clear hb))
 go_region_with (first|(go_at_call 205;refine Calls.mono (HP.out _) ?_;rintro e w3 ⟨rfl,rfl⟩)|fail)
 all_goals
  go_wp2_with fail
  refine qoh Tryz.results151 rfl _ _ rfl rfl ?_;exact⟨by first|rfl|(rw[hn];rfl),by have h1:=He.out;have h2:=hf.out;exact(h1.trans (h2.mono h1.size)).drew⟩
end Go.Proofs.YtfkhljmiehdgmaaGreatDoor
