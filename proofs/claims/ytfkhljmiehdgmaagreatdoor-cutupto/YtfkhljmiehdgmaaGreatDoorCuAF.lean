/-
  Steps of the proof.
-/
import Derived.Shelf.Strings.Builder1
import Derived.Shelf.Strings.Builder2
import Derived.Shelf.Strings.Trim
import Derived.Shelf.Small.Utf8
import Derived.Shelf.Small.Strs
import Derived.Shelf.Small.Wraps
import Derived.Shelf.Strings.BuilderF
import Derived.Shelf.Strings.BuilderK
import Derived.Shelf.Strings.BuilderRune
import Derived.Shelf.Utf8.AppendRune
import Derived.Shelf.Utf8.AppendRunePlain
import Derived.Shelf.Utf8.RuneCount
import Derived.Shelf.Strings.Builder2Cap
import Derived.Shelf.Strconv.Itoa0
import Derived.Shelf.Strconv.Itoa1
import Derived.Shelf.LaysM
import Derived.Shelf.Strconv.Itoa2
import Derived.Shelf.Strconv.Itoa3
import Derived.Shelf.Strconv.Itoa4
import Derived.Shelf.Strconv.Clone
import Derived.Shelf.Strings.Search1
import Derived.Shelf.Strings.Search2
import Derived.Shelf.Strings.Search3
import Derived.Shelf.Strings.Cut
import Derived.Shelf.Strings.Count
import Derived.Shelf.Strings.Shaped
import Derived.Shelf.Strings.Prefix
import Derived.Shelf.Strings.Split
import Derived.Shelf.Strings.SplitShaped
import Derived.Shelf.Unicode.Decode
import Derived.Shelf.Strings.Runes
import Derived.Shelf.Strings.RuneCount
import Derived.Shelf.Strings.AsciiSet
import Derived.Shelf.Strings.Explode
import Derived.Shelf.Unicode.DecodeSlow
import Derived.Shelf.Unicode.DecodeAny
import Derived.Shelf.Unicode.DecodeLast
import Derived.Shelf.Strings.FieldsFuncAny
import Derived.Shelf.Strings.FieldsFuncGrows
import Derived.Shelf.Strings.BuilderCap
import Derived.Test.YtfkhljmiehdgmaaGreatDoorProg
import Derived.Lib.MapLaws
import Derived.Lib.TrimUEq
import Derived.Lib.TrimU
import Derived.Lib.Bytealg
import Derived.Test.YtfkhljmiehdgmaaGreatDoorCuAE
set_option maxRecDepth 100000
set_option maxHeartbeats 40000000
namespace Go.Proofs
open Go.Proofs.YtfkhljmiehdgmaaGreatDoor
open Go.Shelf
def Tryz.lays240_ren:Go.Shelf.Ren:=⟨fun|240=>188|276=>221|n=>n,fun|70=>151|0=>0|72=>153|4=>4|164=>328|37=>82|5=>5|9=>9|20=>20|n=>n,fun|n=>n⟩
theorem Tryz.Builder_X72_240:Builder.X72 Tryz.prog Tryz.lays240_ren:=by constructor<;>first|kernel_rfl|intro _;kernel_rfl|decide
def Tryz.lays167_ren:Go.Shelf.Ren:=⟨fun|167=>145|240=>188|276=>221|n=>n,fun|70=>151|5=>5|75=>262|0=>0|72=>153|37=>82|4=>4|164=>328|80=>157|9=>9|20=>20|n=>n,fun|n=>n⟩
theorem Tryz.lays167:Go.Proofs.Lays.n167 Tryz.prog Tryz.lays167_ren:=by constructor<;>first|kernel_rfl|intro _;kernel_rfl|decide
theorem Tryz.Builder_Extra_167:Builder.Extra Tryz.prog Tryz.lays167_ren:=by constructor<;>first|kernel_rfl|intro _;kernel_rfl|(constructor<;>first|kernel_rfl|intro _;kernel_rfl)|decide
def Tryz.lays166_ren:Go.Shelf.Ren:=⟨fun|166=>142|240=>188|276=>221|n=>n,fun|70=>151|9=>9|3=>3|75=>262|0=>0|72=>153|37=>82|4=>4|164=>328|80=>157|5=>5|20=>20|n=>n,fun|n=>n⟩
theorem Tryz.lays166:Go.Proofs.Lays.n166 Tryz.prog Tryz.lays166_ren:=by constructor<;>first|kernel_rfl|intro _;kernel_rfl|decide
theorem Tryz.Builder_Extra_166:Builder.Extra Tryz.prog Tryz.lays166_ren:=by constructor<;>first|kernel_rfl|intro _;kernel_rfl|(constructor<;>first|kernel_rfl|intro _;kernel_rfl)|decide
def Tryz.lays169_ren:Go.Shelf.Ren:=⟨fun|169=>61|n=>n,fun|70=>151|9=>9|0=>0|72=>153|37=>82|127=>209|3=>3|5=>5|n=>n,fun|n=>n⟩
theorem Tryz.lays169:Go.Proofs.Lays.n169 Tryz.prog Tryz.lays169_ren:=by constructor<;>first|kernel_rfl|intro _;kernel_rfl|decide
theorem Tryz.Builder_Extra_169:Builder.Extra Tryz.prog Tryz.lays169_ren:=by constructor<;>first|kernel_rfl|intro _;kernel_rfl|(constructor<;>first|kernel_rfl|intro _;kernel_rfl)|decide
def Tryz.lays165_ren:Go.Shelf.Ren:=⟨fun|165=>139|240=>188|241=>189|276=>221|277=>222|n=>n,fun|70=>151|3=>3|0=>0|4=>4|9=>9|20=>20|72=>153|37=>82|164=>328|5=>5|n=>n,fun|n=>n⟩
theorem Tryz.lays165:Go.Proofs.Lays.n165 Tryz.prog Tryz.lays165_ren:=by constructor<;>first|kernel_rfl|intro _;kernel_rfl|decide
theorem Tryz.Builder_Extra_165:Builder.Extra Tryz.prog Tryz.lays165_ren:=by constructor<;>first|kernel_rfl|intro _;kernel_rfl|(constructor<;>first|kernel_rfl|intro _;kernel_rfl)|decide
open Go.RowKit in
theorem Tryz.Builder_Grow_fresh(B b n:Nat)(w:World)(D:B<=b)(y:w.heap[b]?=zK #[.pointer none,zN] 153)(z:B<=w.heap.size)(I:n<=281474976710656) :
  zC 139 #[zP b,zI n] w fun e w'=>e=.returned (.tuple #[])/\(Lib.BuilderAt 153 5 B b (zP b) [] w'/\Below B w w'):=Any.Builder_Grow_fresh Tryz.lays165 Tryz.Builder_Extra_165 B b n w D y z I
def Tryz.lays161_ren:Go.Shelf.Ren:=⟨fun|161=>196|231=>197|227=>199|233=>200|235=>202|228=>231|197=>232|151=>233|260=>243|152=>244|137=>130|119=>253|224=>239|225=>238|217=>180|266=>220|n=>n,fun|9=>9|4=>4|3=>3|5=>5|117=>306|116=>305|0=>0|124=>309|105=>336|21=>21|119=>354|46=>302|139=>357|138=>356|n=>n,fun|3=>12|4=>13|n=>n⟩
theorem Tryz.lays161:Go.Proofs.Lays.n161 Tryz.prog Tryz.lays161_ren:=by constructor<;>first|kernel_rfl|intro _;kernel_rfl|decide
def Tryz.lays162_ren:Go.Shelf.Ren:=⟨fun|162=>204|232=>198|227=>199|234=>201|236=>203|228=>231|271=>234|151=>233|120=>245|197=>232|152=>244|260=>243|137=>130|119=>253|224=>239|225=>238|217=>180|266=>220|n=>n,fun|9=>9|4=>4|3=>3|5=>5|117=>306|116=>305|0=>0|124=>309|21=>21|105=>336|46=>302|119=>354|139=>357|138=>356|n=>n,fun|3=>12|4=>13|n=>n⟩
theorem Tryz.lays162:Go.Proofs.Lays.n162 Tryz.prog Tryz.lays162_ren:=by constructor<;>first|kernel_rfl|intro _;kernel_rfl|decide
def Tryz.lays160_ren:Go.Shelf.Ren:=⟨fun|160=>150|232=>198|231=>197|227=>199|234=>201|233=>200|236=>203|235=>202|228=>231|271=>234|151=>233|197=>232|120=>245|152=>244|260=>243|137=>130|119=>253|224=>239|225=>238|217=>180|266=>220|n=>n,fun|9=>9|4=>4|3=>3|5=>5|117=>306|116=>305|0=>0|124=>309|21=>21|105=>336|46=>302|119=>354|139=>357|138=>356|n=>n,fun|3=>12|4=>13|n=>n⟩
theorem Tryz.lays160:Go.Proofs.Lays.n160 Tryz.prog Tryz.lays160_ren:=by constructor<;>first|kernel_rfl|intro _;kernel_rfl|decide
def Tryz.lays119_ren:Go.Shelf.Ren:=⟨fun|119=>253|n=>n,fun|21=>21|4=>4|n=>n,fun|n=>n⟩
theorem Tryz.lays119:Go.Proofs.Lays.n119 Tryz.prog Tryz.lays119_ren:=by constructor<;>first|kernel_rfl|intro _;kernel_rfl|decide
theorem Tryz.utf8_ValidRune(r:Int)(w:World) :
  zC 253 #[.int .i32 r] w fun e w'=>e=.returned (.bool (Lib.validRune r))/\w'=w:=Any.utf8_ValidRune Tryz.lays119 r w
def Tryz.lays137_ren:Go.Shelf.Ren:=⟨fun|137=>130|217=>180|266=>220|n=>n,fun|9=>9|5=>5|3=>3|n=>n,fun|n=>n⟩
theorem Tryz.lays137:Go.Proofs.Lays.n137 Tryz.prog Tryz.lays137_ren:=by constructor<;>first|kernel_rfl|intro _;kernel_rfl|decide
open Go.RowKit in
theorem Tryz.strings_IndexByte(s:zT)(c:Int)(w:World) :
  zC 130 #[.string s,zJ c] w fun e w'=>e=.returned (zI (Lib.indexByte s.data.toList c.toNat.toUInt8))/\w'=w:=Any.strings_IndexByte Tryz.lays137 s c w
def Tryz.lays104_ren:Go.Shelf.Ren:=⟨fun|104=>226|211=>241|207=>251|n=>n,fun|9=>9|4=>4|24=>39|3=>3|n=>n,fun|n=>n⟩
theorem Tryz.lays104:Go.Proofs.Lays.n104 Tryz.prog Tryz.lays104_ren:=by constructor<;>first|kernel_rfl|intro _;kernel_rfl|decide
open Go.RowKit in
theorem Tryz.strings_CutSuffix(s p:zT)(w:World)(y:s.size<=9223372036854775807) :
  zC 226 #[.string s,.string p] w fun e w'=>e=.returned (.tuple #[.string ⟨(Lib.trimSuffix s.data.toList p.data.toList).toArray⟩,.bool (Lib.hasSuffix s.data.toList p.data.toList)])/\w'=w:=Any.strings_CutSuffix Tryz.lays104 s p w y
def Tryz.lays121_ren:Go.Shelf.Ren:=⟨fun|121=>216|214=>236|n=>n,fun|4=>4|9=>9|n=>n,fun|n=>n⟩
theorem Tryz.lays121:Go.Proofs.Lays.n121 Tryz.prog Tryz.lays121_ren:=by constructor<;>first|kernel_rfl|intro _;kernel_rfl|decide
open Go.RowKit in
theorem Tryz.strconv_FormatBool(b:Bool)(w:World) :
  zC 216 #[.bool b] w fun e w'=>e=.returned (.string ⟨(Lib.formatBool b).toArray⟩)/\w'=w:=Any.strconv_FormatBool Tryz.lays121 b w
open Go.RowKit in
theorem Tryz.Builder_WriteByte_k(B b:Nat)(bs:List Value)(c:Int)(w:World)(h:Lib.IsBuilderF 153 5 B b bs w)(y:bs.length+1<=140737488355328)(z:B<=w.heap.size) :
  zC 145 #[zP b,zJ c] w fun e w'=>e=.returned .nilIface/\(Lib.BuilderAtF 153 5 B b (zP b) (bs++[zJ c]) w'/\Below B w w'/\Lib.OthersKept 5 (some b) w w'):=Any.Builder_WriteByte_k Tryz.lays167 Tryz.Builder_Extra_167 B b bs c w h y z
open Go.RowKit in
theorem Tryz.Builder_WriteString_k(B b:Nat)(bs:List Value)(s:zT)(w:World)(h:Lib.IsBuilderF 153 5 B b bs w)(y:bs.length+s.size<=140737488355328)(z:B<=w.heap.size) :
  zC 142 #[zP b,.string s] w fun e w'=>e=.returned (.tuple #[zI s.size,.nilIface])/\(Lib.BuilderAtF 153 5 B b (zP b) (bs++Lib.strCells s) w'/\Below B w w'/\Lib.OthersKept 5 (some b) w w'):=Any.Builder_WriteString_k Tryz.lays166 Tryz.Builder_Extra_166 B b bs s w h y z
open Go.RowKit in
theorem Tryz.Builder_String_any_k(B b:Nat)(l:zU)(w:World)(h:Lib.IsBuilderF 153 5 B b (Lib.byteCells l) w)(y:B<=w.heap.size) :
  zC 61 #[zP b] w fun e w'=>e=.returned (.string ⟨l.toArray⟩)/\(Lib.IsBuilderF 153 5 B b (Lib.byteCells l) w'/\Below B w w'/\Lib.OthersKept 5 (some b) w w'):=Any.Builder_String_any_k Tryz.lays169 Tryz.Builder_Extra_169 B b l w h y
def Tryz.lays168_ren:Go.Shelf.Ren:=⟨fun|168=>140|240=>188|242=>190|276=>221|278=>223|n=>n,fun|70=>151|21=>21|3=>3|75=>262|0=>0|72=>153|37=>82|4=>4|164=>328|51=>331|5=>5|46=>302|80=>157|9=>9|20=>20|n=>n,fun|n=>n⟩
theorem Tryz.lays168:Go.Proofs.Lays.n168 Tryz.prog Tryz.lays168_ren:=by constructor<;>first|kernel_rfl|intro _;kernel_rfl|decide
theorem Tryz.Builder_Extra_168:Builder.Extra Tryz.prog Tryz.lays168_ren:=by constructor<;>first|kernel_rfl|intro _;kernel_rfl|(constructor<;>first|kernel_rfl|intro _;kernel_rfl)|decide
open Go.RowKit in
theorem Tryz.Builder_WriteRune_k(B b:Nat)(bs:List Value)(r:Int)(z:-2147483648<=r)(D:r<=2147483647)(w:World)(h:Lib.IsBuilderF 153 5 B b bs w)(y:bs.length+4<=140737488355328)(I:B<=w.heap.size) :
  zC 140 #[zP b,.int .i32 r] w fun e w'=>e=.returned (.tuple #[zI (Lib.runeCells r).length,.nilIface])/\(Lib.BuilderAtF 153 5 B b (zP b) (bs++Lib.runeCells r) w'/\Below B w w'/\Lib.OthersKept 5 (some b) w w'):=Any.Builder_WriteRune_k Tryz.lays168 Tryz.Builder_Extra_168 B b bs r z D w h y I
def Tryz.laysM173_ren:Go.Shelf.Ren:=⟨fun|173=>217|246=>237|283=>246|284=>247|285=>248|286=>249|129=>255|317=>254|318=>256|319=>257|320=>258|337=>262|338=>263|n=>n,fun|2=>2|3=>3|9=>9|4=>4|171=>346|0=>0|53=>313|37=>82|5=>5|173=>349|212=>359|51=>331|20=>20|213=>360|46=>302|232=>364|233=>365|n=>n,fun|17=>14|18=>15|19=>16|n=>n⟩
theorem Tryz.laysM173:Go.Proofs.LaysM.n173 Tryz.prog Tryz.laysM173_ren:=by constructor<;>first|kernel_rfl|intro _;kernel_rfl|(constructor<;>first|kernel_rfl|intro _;kernel_rfl)|decide
open Go.RowKit Go.Sort Go.Lib in
theorem Tryz.strconv_FormatInt_10(n:Int)(z:-9223372036854775808<=n)(D:n<=9223372036854775807)(w:World)(y:Lib.TabIs Tryz.prog w "internal/strconv.uint64pow10" .u64 Lib.pow10Tab) :
  zC 217 #[zI n,zI 10] w fun e w'=>e=.returned (.string ⟨(Lib.itoa n).toArray⟩)/\∃k os,w'=grow (w.drewN k) os:=Any.strconv_FormatInt_10 Tryz.laysM173 n z D w y
def Tryz.lays145_ren:Go.Shelf.Ren:=⟨fun|145=>146|220=>192|219=>225|217=>180|225=>238|224=>239|267=>240|266=>220|314=>250|n=>n,fun|9=>9|4=>4|59=>197|3=>3|5=>5|46=>302|146=>351|51=>331|n=>n,fun|1=>11|n=>n⟩
theorem Tryz.lays145:Go.Proofs.Lays.n145 Tryz.prog Tryz.lays145_ren:=by constructor<;>first|kernel_rfl|intro _;kernel_rfl|decide
open Go.RowKit Go.Lib in
theorem Tryz.strings_Cut(s sep:zT)(m:Int)(w:World)(y:s.size<4294967281)(z:w.cell? (zO 11 0)=some (zI m)) :
  zC 146 #[.string s,.string sep] w fun e w'=>e=.returned (.tuple #[.string ⟨(Lib.cut s.data.toList sep.data.toList).1.toArray⟩,.string ⟨(Lib.cut s.data.toList sep.data.toList).2.1.toArray⟩,.bool (Lib.cut s.data.toList sep.data.toList).2.2])/\∃n,w'=w.drewN n:=Any.strings_Cut Tryz.lays145 s sep m w y z
def Tryz.lays99_ren:Go.Shelf.Ren:=⟨fun|99=>191|206=>224|n=>n,fun|9=>9|4=>4|3=>3|n=>n,fun|n=>n⟩
theorem Tryz.lays99:Go.Proofs.Lays.n99 Tryz.prog Tryz.lays99_ren:=by constructor<;>first|kernel_rfl|intro _;kernel_rfl|decide
open Go.RowKit Go.Lib in
theorem Tryz.strings_HasPrefix(s p:zT)(w:World) :
  zC 191 #[.string s,.string p] w fun e w'=>e=.returned (.bool (Lib.hasPrefix s.data.toList p.data.toList))/\w'=w:=Any.strings_HasPrefix Tryz.lays99 s p w
def Tryz.lays101_ren:Go.Shelf.Ren:=⟨fun|101=>205|208=>235|206=>224|n=>n,fun|9=>9|4=>4|3=>3|n=>n,fun|n=>n⟩
theorem Tryz.lays101:Go.Proofs.Lays.n101 Tryz.prog Tryz.lays101_ren:=by constructor<;>first|kernel_rfl|intro _;kernel_rfl|decide
open Go.RowKit Go.Lib in
theorem Tryz.strings_TrimPrefix(s p:zT)(w:World) :
  zC 205 #[.string s,.string p] w fun e w'=>e=.returned (.string ⟨(Lib.trimPrefix s.data.toList p.data.toList).toArray⟩)/\w'=w:=Any.strings_TrimPrefix Tryz.lays101 s p w
def Tryz.lays146_ren:Go.Shelf.Ren:=⟨fun|146=>242|221=>252|268=>259|138=>260|143=>261|195=>264|197=>232|218=>265|219=>225|260=>243|217=>180|225=>238|224=>239|267=>240|266=>220|314=>250|n=>n,fun|9=>9|31=>35|3=>3|4=>4|0=>0|105=>336|21=>21|5=>5|46=>302|119=>354|139=>357|138=>356|146=>351|51=>331|n=>n,fun|1=>11|3=>12|4=>13|n=>n⟩
theorem Tryz.lays146:Go.Proofs.Lays.n146 Tryz.prog Tryz.lays146_ren:=by constructor<;>first|kernel_rfl|intro _;kernel_rfl|decide
open Go.RowKit Go.Lib in
theorem Tryz.strings_Split(s sep:zT)(m:Int)(w:World)(y:s.size<4294967281)(z:w.cell? (zO 11 0)=some (zI m))(D:1<=sep.size) :
  zC 242 #[.string s,.string sep] w fun e w'=>
   e=.returned (zF w.heap.size (Lib.countB s sep+1) (Lib.countB s sep+1))/\w'=w.alloc (.cells ((Lib.splitB sep 0 (Lib.countB s sep) s).map Value.string).toArray 9):=Any.strings_Split Tryz.lays146 (by kernel_rfl) s sep m w y z D
def Tryz.lays151_ren:Go.Shelf.Ren:=⟨fun|151=>233|152=>244|137=>130|119=>253|224=>239|225=>238|217=>180|266=>220|n=>n,fun|9=>9|21=>21|4=>4|3=>3|5=>5|0=>0|46=>302|n=>n,fun|n=>n⟩
theorem Tryz.lays151:Go.Proofs.Lays.n151 Tryz.prog Tryz.lays151_ren:=by constructor<;>first|kernel_rfl|intro _;kernel_rfl|decide
open Go.RowKit Go.Lib in
theorem Tryz.strings_ContainsRune_ascii(s:zT)(r:Int)(w:World)(y:0<=r)(z:r<128) :
  zC 233 #[.string s,.int .i32 r] w fun e w'=>e=.returned (.bool (decide (0<=Lib.indexByte s.data.toList r.toNat.toUInt8)))/\w'=w:=Any.strings_ContainsRune_ascii Tryz.lays151 s r w y z
def Tryz.lays229_ren:Go.Shelf.Ren:=⟨fun|229=>227|n=>n,fun|9=>9|40=>335|31=>35|152=>340|3=>3|0=>0|4=>4|21=>21|154=>342|n=>n,fun|n=>n⟩
theorem Tryz.lays229:Go.Proofs.Lays.n229 Tryz.prog Tryz.lays229_ren:=by constructor<;>first|kernel_rfl|intro _;kernel_rfl|decide
open Go.RowKit Go.Lib in
theorem Tryz.strings_FieldsFunc_grows(g:Nat)(lb:Array Value)(eg:∀args w,(callFunc g args).run Tryz.prog w=.ok (.enter g args) w)(p:Nat->Bool)(s:zT)(w:World)(y:s.size<=4294967296)(z:PredGrows Tryz.prog g lb p w) :
  zC 227 #[.string s,.func (.func g) #[] lb] w fun e w'=>∃A,e=.returned (zF A (Lib.goFieldsP p s).length (Lib.goFieldsP p s).length)/\w.heap.size<=A /\
   w'.ownsRow w.heap.size 9 1 (zF A (Lib.goFieldsP p s).length (Lib.goFieldsP p s).length) (Lib.goFieldsP p s).length ((Lib.goFieldsP p s).map Value.string)/\zW w w':=Any.strings_FieldsFunc_grows Tryz.lays229 g lb eg p s w y z (by kernel_rfl) (by kernel_rfl)
end Go.Proofs
namespace Go.Proofs.YtfkhljmiehdgmaaGreatDoor
open Go.RowKit Go.Proofs.Tryz Pl
namespace Pl
def qp3(b:UInt8):zU:=
 bif (b.toNat:Int)==38 then[38,97,109,112,59]else bif (b.toNat:Int)==60 then[38,108,116,59]else bif (b.toNat:Int)==62 then[38,103,116,59]else bif (b.toNat:Int)==34 then[38,113,117,111,116,59]else bif (b.toNat:Int)==39 then[38,35,51,57,59]else[b]
def qjh(l:zU):zU:=l.flatMap qp3
def two(b:UInt8)(all:zU):zU:=[all.getD (b.toNat / 16) 0,all.getD (b.toNat % 16) 0]
def q67:zU:=[48,49,50,51,52,53,54,55,56,57,65,66,67,68,69,70]
def qgh:zU:=[48,49,50,51,52,53,54,55,56,57,97,98,99,100,101,102]
def qgv:zU:=[97,98,99,100,101,102,103,104,105,106,107,108,109,110,111,112,113,114,115,116,117,118,119,120,121,122,65,66,67,68,69,70,71,72,73,74,75,76,77,78,79,80,81,82,83,84,85,86,87,88,89,90,48,49,50,51,52,53,54,55,56,57,45,46,95,126,47,63,35,91,93,64,33,36,40,41,42,43,44,59,61]
def qon(b:UInt8):zU:=bif among b qgv then[b]else 37::two b q67
def qjy(l:zU):zU:=l.flatMap qon
def qfc(l:zU):zU:=l.map small
def qme(h:zU):zU:=bif ((h.getD 0 0).toNat:Int)==48 then h.drop 1 else h
def qp7(b:UInt8):zU:=bif odd b then 92::(qme (two b qgh)++[32])else[b]
def qwo(l:zU):zU:=l.flatMap qp7
def qf1:Nat->zU->zU
 |0,_=>[]
 |_+1,[]=>[]
 |n+1,b::l=>
   if(odd b || ((b.toNat:Int)==96))=true then[92,120]++two b qgh++qf1 n l
   else if(b::l).take 3=[226,128,168]then[92,117,50,48,50,56]++qf1 n (l.drop 2)
   else if(b::l).take 3=[226,128,169]then[92,117,50,48,50,57]++qf1 n (l.drop 2)
   else[b]++qf1 n l
def qep(l:zU):zU:=qf1 l.length l
theorem zhq(x l:zU):(ByteArray.mk x.toArray++ByteArray.mk l.toArray:zT)=⟨(x++l).toArray⟩:=by
 apply xi;simp
theorem qhe{f:UInt8->zU}(m:Nat)(y:∀b,(f b).length<=m)(l:zU):(l.flatMap f).length<=m*l.length:=by
 induction l with
 |nil=>simp
 |cons b l ih=>
   have:=y b;simp only[List.flatMap_cons,yJ,yK];rw[Nat.mul_add];omega
theorem qkx{m:Nat}{c:Bool}{x y:zU}(z:x.length<=m)(D:y.length<=m):(bif c then x else y).length<=m:=by
 cases c<;>assumption
theorem q4c(b:UInt8):(qp3 b).length<=6:=by
 unfold qp3
 repeat' apply qkx
 all_goals simp
theorem qnq(b:UInt8):(qon b).length<=6:=by
 unfold qon
 repeat' apply qkx
 all_goals simp[two]
theorem qz9(b:UInt8):(qp7 b).length<=6:=by
 have:(qme (two b qgh)).length<=2:=by
  unfold qme;apply qkx<;>simp[two]
 unfold qp7;apply qkx
 ·simp;omega
 ·simp
def qjz:zU:=[97,98,99,100,101,102,103,104,105,106,107,108,109,110,111,112,113,114,115,116,117,118,119,120,121,122,65,66,67,68,69,70,71,72,73,74,75,76,77,78,79,80,81,82,83,84,85,86,87,88,89,90]
def qes:zU:=[48,49,50,51,52,53,54,55,56,57,43,45,46]
def run(l:zU):Bool->Nat
 |later=>match l with
   |[]=>0
   |b::r=>if among b qjz || (later && among b qes)then run r true+1 else 0
def qb2(l:zU):Nat:=if run l false=0 then 0 else if l[run l false]?=some 58 then run l false+1 else 0
theorem q5p{b:UInt8}(h:among b qgv=true):qon b=[b]:=by simp[qon,h]
theorem q81{b:UInt8}(h:among b qgv=false):qon b=[37]++two b q67:=by simp[qon,h]
theorem zd0(b:UInt8)(all:zT)(y:b.toNat / 16<all.size)(z:b.toNat % 16<all.size):two b all.data.toList=[all[b.toNat / 16],all[b.toNat % 16]]:=by
 have e:∀i (h:i<all.size),all.data.toList.getD i 0=all[i]:=by
  intro i h;rw[xx,yc (by simpa using h)];rfl
 unfold two;rw[e _ y,e _ z]
theorem q2m(s:zT)(k:Nat)(y:k<=s.size):(s.data.toList.take k).length=k:=by
 have:s.data.size=s.size:=rfl;simp;omega
theorem qj6(s:zT)(k:Nat)(h:k<s.size):s.data.toList.drop k=s[k]::s.data.toList.drop (k+1):=by
 rw[yo (by simpa using h)];rfl
theorem qvt(s:zT)(k:Nat)(h:¬k<s.size):s.data.toList.drop k=[]:=by
 have:s.data.size=s.size:=rfl;simp;omega
theorem zeb(s:zT)(k:Nat)(h:k<s.size):s.data.toList[k]?=some s[k]:=by
 rw[yc (by simpa using h)];rfl
theorem zf0(s:zT)(k:Nat)(h:¬k<s.size):s.data.toList[k]?=none:=by
 have:s.data.size=s.size:=rfl;rw[yd (by simp;omega)]
theorem q4w(s:zT)(k:Nat)(h:k<s.size)(p:Bool)(y:among s[k] qjz=true):run (s.data.toList.drop k) p=run (s.data.toList.drop (k+1)) true+1:=by
 rw[qj6 s k h];simp[run,y]
theorem qwx(s:zT)(k:Nat)(h:k<s.size)(y:among s[k] qes=true):run (s.data.toList.drop k) true=run (s.data.toList.drop (k+1)) true+1:=by
 rw[qj6 s k h];simp[run,y]
theorem q74(s:zT)(k:Nat)(h:k<s.size)(y:among s[k] qjz=false):run (s.data.toList.drop k) false=0:=by
 rw[qj6 s k h];simp[run,y]
theorem q2s(s:zT)(k:Nat)(h:k<s.size)(p:Bool)(y:among s[k] qjz=false)(hd:among s[k] qes=false):run (s.data.toList.drop k) p=0:=by
 rw[qj6 s k h];simp[run,y,hd]
theorem zbq(s:zT)(k:Nat)(h:¬k<s.size)(p:Bool):run (s.data.toList.drop k) p=0:=by
 rw[qvt s k h];rfl
theorem qwt(l:zU)(h:run l false=0):qb2 l=0:=by simp[qb2,h]
theorem qwu(s:zT)(k:Nat)(h:run s.data.toList false=k)(y:¬k<s.size):qb2 s.data.toList=0:=by
 simp[qb2,h,zf0 s k y]
theorem q0i(s:zT)(k:Nat)(h:run s.data.toList false=k)(y:0<k)(z:k<s.size)(D:s[k].toNat=58):qb2 s.data.toList=k+1:=by
 have e:s[k]=58:=UInt8.toNat_inj.1 (by simpa using D);simp[qb2,h,zeb s k z,e];omega
theorem q4s(s:zT)(k:Nat)(h:run s.data.toList false=k)(y:k<s.size)(z:¬s[k].toNat=58):qb2 s.data.toList=0:=by
 have e:¬s[k]=58:=fun e=>z (by rw[e];rfl);simp[qb2,h,zeb s k y,e]
theorem qhv:∀(n:Nat) (l:zU),l.length<=n->qf1 n l=qf1 l.length l
 |0,[],_=>rfl
 |n+1,[],_=>rfl
 |n+1,b::l,h=>by
   simp only[yK]at h;have y:=qhv n l (by omega);have z:=qhv n (l.drop 2) (by simp;omega);have D:=qhv l.length (l.drop 2) (by simp);simp only[qf1,yK,y,z,D]
theorem qiu(b:UInt8)(l:zU):qep (b::l)=if(odd b || ((b.toNat:Int)==96))=true then[92,120]++two b qgh++qep l
  else if(b::l).take 3=[226,128,168]then[92,117,50,48,50,56]++qep (l.drop 2)
  else if(b::l).take 3=[226,128,169]then[92,117,50,48,50,57]++qep (l.drop 2)
  else[b]++qep l:=by
 have y:=qhv l.length (l.drop 2) (by simp);unfold qep;simp only[qf1,yK,y]
theorem qlq:∀(n:Nat) (l:zU),(qf1 n l).length<=6*n
 |0,_=>by simp[qf1]
 |n+1,[]=>by simp[qf1]
 |n+1,b::l=>by
   have y:=qlq n l;have z:=qlq n (l.drop 2);simp only[qf1]
   repeat' split
   all_goals simp only[yJ,yK,yQ,two]
   all_goals omega
theorem qws(l:zU):(qep l).length<=6*l.length:=qlq _ l
end Pl
namespace Pl
open Go.Lib (decodeL decodeN)
def bad(l:zU):Bool:=decide ((decodeL l).1=65533) && decide ((decodeL l).2=1)
def qen(l:zU):Nat:=if l=[]then 0 else if bad l then 0 else(decodeL l).2
theorem decodeL_N(l:zU):decodeL l=decodeN l.length (l.getD 0 0).toNat (l.getD 1 0).toNat (l.getD 2 0).toNat (l.getD 3 0).toNat:=by
 have:=Lib.decode_N ⟨l.toArray⟩ 0;simpa [decodeL]using this
theorem q84(s:zT):s.data.toList.length=s.size:=rfl
theorem q6j(l:zU):qen l<=l.length:=by
 unfold qen;by_cases h:l=[]
 ·rw[if_pos h];omega
 rw[if_neg h];split
 ·omega
 ·exact Lib.decodeL_le l h
def qjf:Nat->zU->zU
 |0,_=>[]
 |n+1,l=>if l=[]then[]else if qen l=0\/l[0]?=some 0 then[239,191,189]++qjf n (l.drop 1)else l.take (qen l)++qjf n (l.drop (qen l))
def qd3(l:zU):zU:=qjf l.length l
theorem qf5:∀(n:Nat) (l:zU),l.length<=n->qjf n l=qjf l.length l
 |0,l,h=>by
   have:l=[]:=by simpa using h
   subst this;rfl
 |n+1,[],_=>rfl
 |n+1,b::l,h=>by
   simp only[yK]at h;have y:=qf5 n ((b::l).drop 1) (by simp;omega);have z:=qf5 l.length ((b::l).drop 1) (by simp);by_cases c:qen (b::l)=0
   ·simp only[qjf,yK,y,z,c,true_or,if_true]
   ·have D:=qf5 n ((b::l).drop (qen (b::l))) (by simp;omega)
    have I:=qf5 l.length ((b::l).drop (qen (b::l))) (by simp;omega);simp only[qjf,yK,y,z,D,I]
theorem zak:qd3 []=[]:=rfl
theorem qy1(l:zU)(y:l≠[])(h:qen l=0\/l[0]?=some 0):qd3 l=[239,191,189]++qd3 (l.drop 1):=by
 match l,y with
 |b::l,_=>
   unfold qd3;rw[yK,qjf,if_neg (by simp),if_pos h,qf5 l.length _ (by simp)]
theorem q6i(l:zU)(y:l≠[])(h:¬(qen l=0\/l[0]?=some 0)):qd3 l=l.take (qen l)++qd3 (l.drop (qen l)):=by
 match l,y with
 |b::l,_=>
   unfold qd3;rw[yK,qjf,if_neg (by simp),if_neg h,qf5 l.length _ (by simp;omega)]
theorem qy0(l:zU):(qd3 l).length<=3*l.length:=by
 unfold qd3;have:∀n l,(qjf n l).length<=3*l.length:=by
  intro n
  induction n with
  |zero=>intro l;simp[qjf]
  |succ n ih=>
    intro l;rw[qjf];split
    ·simp
    rename_i y;have z:0<l.length:=List.length_pos_iff.2 y;split
    ·have:=ih (l.drop 1)
     simp only[yJ,yK,yQ,yM]at this |-;omega
    ·have:=ih (l.drop (qen l))
     have D:=q6j l;simp only[yJ,yP,yM]at this |-;omega
 exact this _ l
end Pl
namespace Pl
def qv3:zU:=[35,98,108,111,99,107,101,100]
def http:zU:=[104,116,116,112,58]
def zhd:zU:=[104,116,116,112,115,58]
def zd6:zU:=[109,97,105,108,116,111,58]
def qf3(l:zU):zU:=
 if 0<qb2 l/\qfc (l.take (qb2 l))≠http/\qfc (l.take (qb2 l))≠zhd/\qfc (l.take (qb2 l))≠zd6 then qv3
 else l.take (qb2 l)++qjy (l.drop (qb2 l))
def qgn(kd:Int)(l:zU):zU:=
 if kd=1 then qjh (qd3 l)else if kd=3 then qjy (qd3 l)else if kd=2 then qf3 (qd3 l)else if kd=4 then qep (qd3 l)else if kd=5 then qwo (qd3 l)else[]
def qor(kd:Int):Int:=if 1<=kd/\kd<=5 then 0 else 1
theorem qso(l:zU):qb2 l<=l.length:=by
 unfold qb2;split
 ·omega
 split
 ·rename_i h
  have:=(yb.1 h).1;omega
 ·omega
theorem qtq(l:zU)(n:Nat)(h:l.length<=n):(qd3 l).length<=3*n:=by
 have:=qy0 l;omega
theorem qui(l:zU)(n:Nat):(ByteArray.mk l.toArray).extract 0 n=⟨(l.take n).toArray⟩:=by
 apply xi;apply Array.toList_inj.1;rw[ByteArray.data_extract,Array.toList_extract,xA];simp
theorem zdc(l:zU)(n:Nat):(ByteArray.mk l.toArray).extract n l.length=⟨(l.drop n).toArray⟩:=by
 apply xi;apply Array.toList_inj.1;rw[ByteArray.data_extract,Array.toList_extract,xA];show(l.drop n).take _=_;apply yp;rw[yM];omega
theorem qrs(p:UInt8->Bool)(h:(List.range 256).all (fun n=>p (UInt8.ofNat n))=true)(b:UInt8):p b=true:=by
 have:=yW.1 h b.toNat (xg.2 (UInt8.toNat_lt b));simpa using this
theorem qxk(b:UInt8):qbl b=among b qjz:=by
 have:=qrs (fun b=>qbl b==among b qjz) (by decide +kernel) b;simpa using this
theorem qvu(b:UInt8):(qea b || among b [43,45,46])=among b qes:=by
 have:=qrs (fun b=>(qea b || among b [43,45,46])==among b qes) (by decide +kernel) b;simpa using this
theorem qvd(b:UInt8):(qbl b || (qea b || among b [45,46,95,126,47,63,35,91,93,64,33,36,40,41,42,43,44,59,61]))=among b qgv:=by
 have:=qrs (fun b=>(qbl b || (qea b || among b [45,46,95,126,47,63,35,91,93,64,33,36,40,41,42,43,44,59,61]))==among b qgv) (by decide +kernel) b;simpa using this
theorem qer:∀(l:zU) (b:UInt8),(0<=Lib.indexByte l b/\among b l=true)\/(Lib.indexByte l b=-1/\among b l=false)
 |[],_=>.inr ⟨rfl,rfl⟩
 |c::l,b=>by
   have ih:=qer l b;unfold Lib.indexByte;by_cases h:(c==b)=true
   ·left;rw[if_pos h];exact⟨by omega,by simp[among,h]⟩
   ·have y:(c==b)=false:=by simpa using h
    rw[if_neg h];rcases ih with⟨a,e⟩|⟨a,e⟩
    ·left
     have:(Lib.indexByte l b==-1)=false:=by simp;omega
     rw[if_neg (by rw[this];simp)];exact⟨by omega,by simp only[among,List.any_cons,y,Bool.false_or]at e |-;exact e⟩
    ·right
     rw[if_pos (by rw[a];rfl)];exact⟨rfl,by simp only[among,List.any_cons,y,Bool.false_or]at e |-;exact e⟩
theorem qhs(b:UInt8):((b.toNat:Int).toNat.toUInt8)=b:=by simp
def qej(l:zU):Int:=if qb2 l=0 then -1 else(qb2 l:Int) - 1
theorem qf7(l:zU)(h:qb2 l=0):qej l=-1:=by simp[qej,h]
theorem qk8(l:zU)(k:Nat)(h:qb2 l=k+1):qej l=k:=by simp[qej,h]
end Pl
theorem qb7(b:UInt8)(all:zT)(l:zU)(w:World)(y:all.data.toList=l)(h:among b l=true) :
  zC 130 #[.string all,zJ b.toNat] w fun e w'=>∃x:Int,0<=x/\e=.returned (zI x)/\w=w':=by
 refine(strings_IndexByte all b.toNat w).mono ?_;rintro e w' ⟨rfl,rfl⟩;refine⟨_,?_,rfl,rfl⟩;rw[qhs,y];rcases qer l b with⟨a,_⟩|⟨_,a⟩
 ·exact a
 ·rw[h]at a;cases a
theorem qci(b:UInt8)(all:zT)(l:zU)(w:World)(y:all.data.toList=l)(h:among b l=false) :
  zC 130 #[.string all,zJ b.toNat] w (zQ (zI (-1)) w):=by
 refine(strings_IndexByte all b.toNat w).mono ?_;rintro e w' ⟨rfl,rfl⟩;refine⟨qal ?_,rfl⟩;rw[qhs,y];rcases qer l b with⟨_,a⟩|⟨a,_⟩
 ·rw[h]at a;cases a
 ·exact a
theorem q2u(s p:zT)(l:zU)(w:World)(y:p.data.toList=l) :
  zC 191 #[.string s,.string p] w (zQ (.bool (l.isPrefixOf s.data.toList)) w):=by
 refine(strings_HasPrefix s p w).mono ?_;rintro e w' ⟨rfl,rfl⟩;exact⟨qas (by rw[y];rfl),rfl⟩
theorem q5u(n:zU)(w:World)(y:PTabs w) :
  zC 186 #[.string ⟨n.toArray⟩] w (zQ (zI (qc1 n)) w):=by
 obtain⟨c0,d0,e0⟩:=qm6 y.at' 0 _ rfl;obtain⟨c1,d1,e1⟩:=qm6 y.at' 1 _ rfl;obtain⟨c2,d2,e2⟩:=qm6 y.at' 2 _ rfl;obtain⟨c3,d3,e3⟩:=qm6 y.at' 3 _ rfl;obtain⟨c4,d4,e4⟩:=qm6 y.at' 4 _ rfl;simp only[bs,qcz,Nat.mul_zero,Nat.reduceMul,Nat.reduceAdd]at c0 c1 c2 c3 c4 d0 d1 d2 d3 d4 e0 e1 e2 e3 e4;clear y;go_enter func186,ntmps186
 go_wp2
 go_loop [3,4] (fun _ i=>∃k:Nat,k<=5/\i=zI k/\(qdu.take k).find? (qbc n)=none) (fun _ i=>5 - (intOf i).toNat)
 case atStart=>exact⟨0,by omega,rfl,rfl⟩
 case round=>
  obtain⟨k,z,rfl,D⟩:=hrel;have I:Hid ((qdu.take k).find? (qbc n)=none):=D;clear D;rcases(show k=0\/k=1\/k=2\/k=3\/k=4\/k=5 by omega)with rfl|rfl|rfl|rfl|rfl|rfl
  ·by_cases J:([104,114,101,102]==n)=true
   ·have O:Hid (qc1 n=1):=qf2 n 0 _ rfl I.out (by show (([104,114,101,102]==n) || _)=true;rw[J];rfl)
    go_wp2
    go_ret
    exact⟨qal (by rw[O.out]),rfl⟩
   ·have J:=ye.2 J
    have O:Hid ((qdu.take (0+1)).find? (qbc n)=none):=qdb (qbc n) 0 _ rfl I.out (by show(([104,114,101,102]==n) || _)=false;rw[J];rfl);go_wp2
    go_round
    case rel=>exact⟨1,by omega,rfl,O.out⟩
    case measure=>simp[intOf]
  ·by_cases J:([115,114,99]==n)=true
   ·have O:Hid (qc1 n=1):=qf2 n 1 _ rfl I.out (by show (([115,114,99]==n) || _)=true;rw[J];rfl)
    go_wp2
    go_ret
    exact⟨qal (by rw[O.out]),rfl⟩
   ·have J:=ye.2 J
    have O:Hid ((qdu.take (1+1)).find? (qbc n)=none):=qdb (qbc n) 1 _ rfl I.out (by show(([115,114,99]==n) || _)=false;rw[J];rfl);go_wp2
    go_round
    case rel=>exact⟨2,by omega,rfl,O.out⟩
    case measure=>simp[intOf]
  ·by_cases J:([97,99,116,105,111,110]==n)=true
   ·have O:Hid (qc1 n=1):=qf2 n 2 _ rfl I.out (by show (([97,99,116,105,111,110]==n) || _)=true;rw[J];rfl)
    go_wp2
    go_ret
    exact⟨qal (by rw[O.out]),rfl⟩
   ·have J:=ye.2 J
    have O:Hid ((qdu.take (2+1)).find? (qbc n)=none):=qdb (qbc n) 2 _ rfl I.out (by show(([97,99,116,105,111,110]==n) || _)=false;rw[J];rfl);go_wp2
    go_round
    case rel=>exact⟨3,by omega,rfl,O.out⟩
    case measure=>simp[intOf]
  ·by_cases J:([115,116,121,108,101]==n)=true
   ·have O:Hid (qc1 n=2):=qf2 n 3 _ rfl I.out (by show (([115,116,121,108,101]==n) || _)=true;rw[J];rfl)
    go_wp2
    go_ret
    exact⟨qal (by rw[O.out]),rfl⟩
   ·have J:=ye.2 J
    have O:Hid ((qdu.take (3+1)).find? (qbc n)=none):=qdb (qbc n) 3 _ rfl I.out (by show(([115,116,121,108,101]==n) || _)=false;rw[J];rfl);go_wp2
    go_round
    case rel=>exact⟨4,by omega,rfl,O.out⟩
    case measure=>simp[intOf]
  ·by_cases J:([111,110]==n)=true
   ·have O:Hid (qc1 n=2):=qf2 n 4 _ rfl I.out (by show (([111,110]==n) || _)=true;rw[J];rfl)
    go_wp2
    go_ret
    exact⟨qal (by rw[O.out]),rfl⟩
   ·have J:=ye.2 J
    by_cases T:List.isPrefixOf [111,110] n=true
    ·have O:Hid (qc1 n=2):=qf2 n 4 _ rfl I.out (by show (([111,110]==n) || (true && List.isPrefixOf [111,110] n))=true;rw[T];simp)
     go_wp2_with (go_at_call 191;refine(q2u ⟨n.toArray⟩ _ [111,110] _ rfl).mono ?_;rintro e w' ⟨rfl,rfl⟩)
     go_ret
     exact⟨qal (by rw[O.out]),rfl⟩
    ·have T:=ye.2 T
     have O:Hid ((qdu.take (4+1)).find? (qbc n)=none):=qdb (qbc n) 4 _ rfl I.out (by show(([111,110]==n) || (true && List.isPrefixOf [111,110] n))=false;rw[J,T];rfl);go_wp2_with (go_at_call 191;refine(q2u ⟨n.toArray⟩ _ [111,110] _ rfl).mono ?_;rintro e w' ⟨rfl,rfl⟩)
     go_round
     case rel=>exact⟨5,by omega,rfl,O.out⟩
     case measure=>simp[intOf]
  ·have O:Hid (qc1 n=0):=q1c n I.out
   go_wp2
   go_ret
   exact⟨qal (by rw[O.out]),rfl⟩
variable{w:World}{g k:Nat}{s:Sx}{c:UInt8}
theorem qti(x:Sx)(w:World)(y:x.st.elem.length<=1000) :
  zC 129 #[qar x] w (zR (.string ⟨x.st.ending.toArray⟩) w):=by
 have z:(ByteArray.mk x.st.elem.toArray).size=x.st.elem.length:=by simp[ByteArray.size]
 unfold qar qaf bs;go_enter func129,ntmps129
 go_wp2
 go_ret
 exact⟨qcl (by unfold St.ending;apply xi;simp),zB _⟩
structure SxAt(w:World)(g:Nat)(s:Sx):Prop where
 mode:w.cell? (zO g 0)=some (zJ (s.st.mode:Int))
 name:w.cell? (zO g 1)=some (.string ⟨s.st.name.toArray⟩)
 elem:w.cell? (zO g 2)=some (.string ⟨s.st.elem.toArray⟩)
 kind:w.cell? (zO g 3)=some (zI s.st.kind)
 read:w.cell? (zO g 4)=some (zI (s.st.read:Int))
 ref:w.cell? (zO g 5)=some (.bool s.ma.ref)
 esc:w.cell? (zO g 6)=some (.bool s.st.esc)
 hex:w.cell? (zO g 7)=some (zI s.ma.hex)
 pct:w.cell? (zO g 8)=some (zI s.ma.pct)
 far:w.cell? (zO g 9)=some (zI s.ma.far)
theorem zez{t:TypeId}{fz:Nat×Nat}(h:w.heap[g]?=some (.cells (qaf s) t fz)):SxAt w g s:=
 ⟨qaa h 0 _ rfl,qaa h 1 _ rfl,qaa h 2 _ rfl,qaa h 3 _ rfl,qaa h 4 _ rfl,qaa h 5 _ rfl,qaa h 6 _ rfl,qaa h 7 _ rfl,qaa h 8 _ rfl,qaa h 9 _ rfl⟩
theorem SxAt.all(h:SxAt w g s):w.cell? (zO g 0)=some (zJ (s.st.mode:Int))/\w.cell? (zO g 1)=some (.string ⟨s.st.name.toArray⟩)/\w.cell? (zO g 2)=some (.string ⟨s.st.elem.toArray⟩)/\w.cell? (zO g 3)=some (zI s.st.kind)/\w.cell? (zO g 4)=some (zI (s.st.read:Int))/\w.cell? (zO g 5)=some (.bool s.ma.ref)/\w.cell? (zO g 6)=some (.bool s.st.esc)/\w.cell? (zO g 7)=some (zI s.ma.hex)/\w.cell? (zO g 8)=some (zI s.ma.pct)/\w.cell? (zO g 9)=some (zI s.ma.far):=⟨h.mode,h.name,h.elem,h.kind,h.read,h.ref,h.esc,h.hex,h.pct,h.far⟩
theorem qkk(w:World)(s:Sx)(t:TypeId):SxAt (w.alloc (.cells (qaf s) t)) w.heap.size s:=zez (xF w _)
theorem SxAt.drew(h:SxAt w g s):SxAt w.drew g s:=⟨h.mode,h.name,h.elem,h.kind,h.read,h.ref,h.esc,h.hex,h.pct,h.far⟩
theorem SxAt.kept{w':World}{B:Nat}(h:SxAt w g s)(y:Below B w w')(z:g<B):SxAt w' g s:=
 ⟨(y.cell (p:=zO g 0) z).trans h.mode,(y.cell (p:=zO g 1) z).trans h.name,(y.cell (p:=zO g 2) z).trans h.elem,(y.cell (p:=zO g 3) z).trans h.kind,(y.cell (p:=zO g 4) z).trans h.read,(y.cell (p:=zO g 5) z).trans h.ref,(y.cell (p:=zO g 6) z).trans h.esc,(y.cell (p:=zO g 7) z).trans h.hex,(y.cell (p:=zO g 8) z).trans h.pct,(y.cell (p:=zO g 9) z).trans h.far⟩
theorem qth(s:St):s.ending.length=s.elem.length+2:=by simp[St.ending]
theorem q9k(E:zU)(k:Nat)(h:k<(ByteArray.mk E.toArray).size):E[k]?=some ((ByteArray.mk E.toArray)[k]'h):=by
 rw[yc (by simpa [ByteArray.size]using h)];rfl
theorem q9h{E:zU}{h:k<(ByteArray.mk E.toArray).size}(e:((c.toNat:Int)==((ByteArray.mk E.toArray)[k]'h).toNat)=true):E[k]?=some c:=by
 rw[beq8,yF]at e;rw[q9k E k h,e]
theorem q9i{E:zU}{h:k<(ByteArray.mk E.toArray).size}(e:((c.toNat:Int)==((ByteArray.mk E.toArray)[k]'h).toNat)=false):¬E[k]?=some c:=by
 rw[beq8,yf]at e;rw[q9k E k h];intro q;exact e (yk q).symm
theorem q3f{E:zU}(h:¬k<E.length):¬E[k]?=some c:=by
 rw[yd (by omega)];simp
theorem qx7{E:zU}{h:0<(ByteArray.mk E.toArray).size}(y:E[0]?=some 60)(e:((c.toNat:Int)==((ByteArray.mk E.toArray)[0]'h).toNat)=true):c=60:=by
 have:=q9h e;rw[y]at this;exact(yk this).symm
theorem q3g{E:zU}{h:0<(ByteArray.mk E.toArray).size}(y:E[0]?=some 60)(e:((c.toNat:Int)==((ByteArray.mk E.toArray)[0]'h).toNat)=false):¬c=60:=by
 rintro rfl;exact q9i e y
theorem q0r(x:Sx)(b:UInt8)(w:World)(V:x.st.elem.length<=1000) :
  zC 93 #[qar x,zJ b.toNat] w (zR (zI (x.st.readEnd b:Nat)) w):=by
 have X:(ByteArray.mk x.st.ending.toArray).size=x.st.ending.length:=by simp[ByteArray.size]
 have Y:=qth x.st;have Z:=fun w=>qti x w V;have HD:Hid (x.st.readEnd b=if x.st.ending[x.st.read]?=some (small b)then x.st.read+1 else if b=60 then 1 else 0):=rfl;have HZ:Hid (x.st.ending[0]?=some 60):=rfl;have I:x.st.ending.length<=1002:=by omega
 have h2:0<x.st.ending.length:=by omega
 generalize x.st.ending=E at X Y Z HD HZ I h2;clear Y;have T:(0:Int)<(E.length:Int):=by omega
 have J:=qkk w x 162;unfold qaf bs at J;unfold qar qaf bs;by_cases D:x.st.read<E.length
 ·have O:(x.st.read:Int)<(E.length:Int):=by omega
  have U:x.st.read+1<=2000:=by omega
  clear I;go_enter func93,ntmps93
  go_wp2_with fail
  refine(Z _).mono ?_;rintro e w1 ⟨rfl,z⟩;have y:=J.kept z (by simp);have q4:=y.read;have hw:zW w w1:=(zB _).trans (z.mono (by simp));go_wp2_with fail
  go_quiet ((go_at_call 131;refine qko (qja b _)))
  go_wp2
  ·go_ret
   exact⟨qal (by rw[HD.out,if_pos (q9h ‹_›)];rfl),qat hw _⟩
  ·have n1:=‹(((small b).toNat:Int)==(((ByteArray.mk E.toArray)[x.st.read]'(by rw[X];exact D)).toNat:Int))=false›
   have n2:=‹((b.toNat:Int)==(((ByteArray.mk E.toArray)[0]'(by rw[X];exact h2)).toNat:Int))=true›;go_ret
   exact⟨qal (by rw[HD.out,if_neg (q9i n1),if_pos (qx7 HZ.out n2)];rfl),qat hw _⟩
  ·have n1:=‹(((small b).toNat:Int)==(((ByteArray.mk E.toArray)[x.st.read]'(by rw[X];exact D)).toNat:Int))=false›
   have n2:=‹((b.toNat:Int)==(((ByteArray.mk E.toArray)[0]'(by rw[X];exact h2)).toNat:Int))=false›;go_ret
   exact⟨qal (by rw[HD.out,if_neg (q9i n1),if_neg (q3g HZ.out n2)];rfl),qat hw _⟩
 ·have O:decide ((x.st.read:Int)<(E.length:Int))=false:=by rw[yO];omega
  clear I;go_enter func93,ntmps93
  go_wp2_with fail
  refine(Z _).mono ?_;rintro e w1 ⟨rfl,z⟩;have y:=J.kept z (by simp);have q4:=y.read;have hw:zW w w1:=(zB _).trans (z.mono (by simp));go_wp2_with fail
  go_quiet (fail)
  go_wp2
  ·have n2:=‹((b.toNat:Int)==(((ByteArray.mk E.toArray)[0]'(by rw[X];exact h2)).toNat:Int))=true›
   go_ret
   exact⟨qal (by rw[HD.out,if_neg (q3f D),if_pos (qx7 HZ.out n2)];rfl),qat hw _⟩
  ·have n2:=‹((b.toNat:Int)==(((ByteArray.mk E.toArray)[0]'(by rw[X];exact h2)).toNat:Int))=false›
   go_ret
   exact⟨qal (by rw[HD.out,if_neg (q3f D),if_neg (q3g HZ.out n2)];rfl),qat hw _⟩
end Go.Proofs.YtfkhljmiehdgmaaGreatDoor
