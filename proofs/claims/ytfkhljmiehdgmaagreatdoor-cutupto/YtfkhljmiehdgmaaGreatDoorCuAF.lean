/-
  Steps of the proof.
-/
import Derived.Test.YtfkhljmiehdgmaaGreatDoorCuHd
import Derived.Shelf.Strings.Builder1
import Derived.Shelf.Strings.Builder2
import Derived.Shelf.Strings.Trim
import Derived.Shelf.Small.Utf8
import Derived.Shelf.Small.Strs
import Derived.Shelf.Small.Wraps
import Derived.Shelf.Strings.BuilderF
import Derived.Shelf.Strings.BuilderK
import Derived.Shelf.Strings.BuilderRune
import Derived.Shelf.Utf8.AppendRune
import Derived.Shelf.Utf8.AppendRunePlain
import Derived.Shelf.Utf8.RuneCount
import Derived.Shelf.Strings.Builder2Cap
import Derived.Shelf.Strconv.Itoa0
import Derived.Shelf.Strconv.Itoa1
import Derived.Shelf.LaysM
import Derived.Shelf.Strconv.Itoa2
import Derived.Shelf.Strconv.Itoa3
import Derived.Shelf.Strconv.Itoa4
import Derived.Shelf.Strconv.Clone
import Derived.Shelf.Strings.Search1
import Derived.Shelf.Strings.Search2
import Derived.Shelf.Strings.Search3
import Derived.Shelf.Strings.Cut
import Derived.Shelf.Strings.Count
import Derived.Shelf.Strings.Shaped
import Derived.Shelf.Strings.Prefix
import Derived.Shelf.Strings.Split
import Derived.Shelf.Strings.SplitShaped
import Derived.Shelf.Unicode.Decode
import Derived.Shelf.Strings.Runes
import Derived.Shelf.Strings.RuneCount
import Derived.Shelf.Strings.AsciiSet
import Derived.Shelf.Strings.Explode
import Derived.Shelf.Unicode.DecodeSlow
import Derived.Shelf.Unicode.DecodeAny
import Derived.Shelf.Unicode.DecodeLast
import Derived.Shelf.Strings.FieldsFuncAny
import Derived.Shelf.Strings.FieldsFuncGrows
import Derived.Shelf.Strings.BuilderCap
import Derived.Test.YtfkhljmiehdgmaaGreatDoorProg
namespace Go.Proofs
open Go.Shelf
def Tryz.lays240_ren:Go.Shelf.Ren:=⟨fun|240=>188|276=>221|n=>n,fun|70=>151|0=>0|72=>153|4=>4|164=>328|37=>82|5=>5|9=>9|20=>20|n=>n,fun|n=>n⟩
theorem Tryz.Builder_X72_240:Builder.X72 Tryz.prog Tryz.lays240_ren:=by constructor<;>first|kernel_rfl|intro _;kernel_rfl|decide
def Tryz.lays167_ren:Go.Shelf.Ren:=⟨fun|167=>145|240=>188|276=>221|n=>n,fun|70=>151|5=>5|75=>262|0=>0|72=>153|37=>82|4=>4|164=>328|80=>157|9=>9|20=>20|n=>n,fun|n=>n⟩
theorem Tryz.lays167:Go.Proofs.Lays.n167 Tryz.prog Tryz.lays167_ren:=by constructor<;>first|kernel_rfl|intro _;kernel_rfl|decide
theorem Tryz.Builder_Extra_167:Builder.Extra Tryz.prog Tryz.lays167_ren:=by constructor<;>first|kernel_rfl|intro _;kernel_rfl|(constructor<;>first|kernel_rfl|intro _;kernel_rfl)|decide
def Tryz.lays166_ren:Go.Shelf.Ren:=⟨fun|166=>142|240=>188|276=>221|n=>n,fun|70=>151|9=>9|3=>3|75=>262|0=>0|72=>153|37=>82|4=>4|164=>328|80=>157|5=>5|20=>20|n=>n,fun|n=>n⟩
theorem Tryz.lays166:Go.Proofs.Lays.n166 Tryz.prog Tryz.lays166_ren:=by constructor<;>first|kernel_rfl|intro _;kernel_rfl|decide
theorem Tryz.Builder_Extra_166:Builder.Extra Tryz.prog Tryz.lays166_ren:=by constructor<;>first|kernel_rfl|intro _;kernel_rfl|(constructor<;>first|kernel_rfl|intro _;kernel_rfl)|decide
def Tryz.lays169_ren:Go.Shelf.Ren:=⟨fun|169=>61|n=>n,fun|70=>151|9=>9|0=>0|72=>153|37=>82|127=>209|3=>3|5=>5|n=>n,fun|n=>n⟩
theorem Tryz.lays169:Go.Proofs.Lays.n169 Tryz.prog Tryz.lays169_ren:=by constructor<;>first|kernel_rfl|intro _;kernel_rfl|decide
theorem Tryz.Builder_Extra_169:Builder.Extra Tryz.prog Tryz.lays169_ren:=by constructor<;>first|kernel_rfl|intro _;kernel_rfl|(constructor<;>first|kernel_rfl|intro _;kernel_rfl)|decide
def Tryz.lays165_ren:Go.Shelf.Ren:=⟨fun|165=>139|240=>188|241=>189|276=>221|277=>222|n=>n,fun|70=>151|3=>3|0=>0|4=>4|9=>9|20=>20|72=>153|37=>82|164=>328|5=>5|n=>n,fun|n=>n⟩
theorem Tryz.lays165:Go.Proofs.Lays.n165 Tryz.prog Tryz.lays165_ren:=by constructor<;>first|kernel_rfl|intro _;kernel_rfl|decide
theorem Tryz.Builder_Extra_165:Builder.Extra Tryz.prog Tryz.lays165_ren:=by constructor<;>first|kernel_rfl|intro _;kernel_rfl|(constructor<;>first|kernel_rfl|intro _;kernel_rfl)|decide
open Go.RowKit in
theorem Tryz.Builder_Grow_fresh(B b n:Nat)(w:World)(hB:B<=b)(ha:w.heap[b]?=zK #[.pointer none,zN] 153)(Ha:B<=w.heap.size)(hn:n<=281474976710656) :
  zC 139 #[zP b,zI n] w fun e w'=>e=.returned (.tuple #[])/\(Lib.BuilderAt 153 5 B b (zP b) [] w'/\Below B w w'):=Any.Builder_Grow_fresh Tryz.lays165 Tryz.Builder_Extra_165 B b n w hB ha Ha hn
def Tryz.lays161_ren:Go.Shelf.Ren:=⟨fun|161=>196|231=>197|227=>199|233=>200|235=>202|228=>231|197=>232|151=>233|260=>243|152=>244|137=>130|119=>253|224=>239|225=>238|217=>180|266=>220|n=>n,fun|9=>9|4=>4|3=>3|5=>5|117=>306|116=>305|0=>0|124=>309|105=>336|21=>21|119=>354|46=>302|139=>357|138=>356|n=>n,fun|3=>12|4=>13|n=>n⟩
theorem Tryz.lays161:Go.Proofs.Lays.n161 Tryz.prog Tryz.lays161_ren:=by constructor<;>first|kernel_rfl|intro _;kernel_rfl|decide
def Tryz.lays162_ren:Go.Shelf.Ren:=⟨fun|162=>204|232=>198|227=>199|234=>201|236=>203|228=>231|271=>234|151=>233|120=>245|197=>232|152=>244|260=>243|137=>130|119=>253|224=>239|225=>238|217=>180|266=>220|n=>n,fun|9=>9|4=>4|3=>3|5=>5|117=>306|116=>305|0=>0|124=>309|21=>21|105=>336|46=>302|119=>354|139=>357|138=>356|n=>n,fun|3=>12|4=>13|n=>n⟩
theorem Tryz.lays162:Go.Proofs.Lays.n162 Tryz.prog Tryz.lays162_ren:=by constructor<;>first|kernel_rfl|intro _;kernel_rfl|decide
def Tryz.lays160_ren:Go.Shelf.Ren:=⟨fun|160=>150|232=>198|231=>197|227=>199|234=>201|233=>200|236=>203|235=>202|228=>231|271=>234|151=>233|197=>232|120=>245|152=>244|260=>243|137=>130|119=>253|224=>239|225=>238|217=>180|266=>220|n=>n,fun|9=>9|4=>4|3=>3|5=>5|117=>306|116=>305|0=>0|124=>309|21=>21|105=>336|46=>302|119=>354|139=>357|138=>356|n=>n,fun|3=>12|4=>13|n=>n⟩
theorem Tryz.lays160:Go.Proofs.Lays.n160 Tryz.prog Tryz.lays160_ren:=by constructor<;>first|kernel_rfl|intro _;kernel_rfl|decide
def Tryz.lays119_ren:Go.Shelf.Ren:=⟨fun|119=>253|n=>n,fun|21=>21|4=>4|n=>n,fun|n=>n⟩
theorem Tryz.lays119:Go.Proofs.Lays.n119 Tryz.prog Tryz.lays119_ren:=by constructor<;>first|kernel_rfl|intro _;kernel_rfl|decide
theorem Tryz.utf8_ValidRune(r:Int)(w:World) :
  zC 253 #[.int .i32 r] w fun e w'=>e=.returned (.bool (Lib.validRune r))/\w'=w:=Any.utf8_ValidRune Tryz.lays119 r w
def Tryz.lays137_ren:Go.Shelf.Ren:=⟨fun|137=>130|217=>180|266=>220|n=>n,fun|9=>9|5=>5|3=>3|n=>n,fun|n=>n⟩
theorem Tryz.lays137:Go.Proofs.Lays.n137 Tryz.prog Tryz.lays137_ren:=by constructor<;>first|kernel_rfl|intro _;kernel_rfl|decide
open Go.RowKit in
theorem Tryz.strings_IndexByte(s:zT)(c:Int)(w:World) :
  zC 130 #[.string s,zJ c] w fun e w'=>e=.returned (zI (Lib.indexByte s.data.toList c.toNat.toUInt8))/\w'=w:=Any.strings_IndexByte Tryz.lays137 s c w
def Tryz.lays104_ren:Go.Shelf.Ren:=⟨fun|104=>226|211=>241|207=>251|n=>n,fun|9=>9|4=>4|24=>39|3=>3|n=>n,fun|n=>n⟩
theorem Tryz.lays104:Go.Proofs.Lays.n104 Tryz.prog Tryz.lays104_ren:=by constructor<;>first|kernel_rfl|intro _;kernel_rfl|decide
open Go.RowKit in
theorem Tryz.strings_CutSuffix(s p:zT)(w:World)(hs:s.size<=9223372036854775807) :
  zC 226 #[.string s,.string p] w fun e w'=>e=.returned (.tuple #[zV (Lib.trimSuffix s.data.toList p.data.toList),.bool (Lib.hasSuffix s.data.toList p.data.toList)])/\w'=w:=Any.strings_CutSuffix Tryz.lays104 s p w hs
def Tryz.lays121_ren:Go.Shelf.Ren:=⟨fun|121=>216|214=>236|n=>n,fun|4=>4|9=>9|n=>n,fun|n=>n⟩
theorem Tryz.lays121:Go.Proofs.Lays.n121 Tryz.prog Tryz.lays121_ren:=by constructor<;>first|kernel_rfl|intro _;kernel_rfl|decide
open Go.RowKit in
theorem Tryz.strconv_FormatBool(b:Bool)(w:World) :
  zC 216 #[.bool b] w fun e w'=>e=.returned (zV (Lib.formatBool b))/\w'=w:=Any.strconv_FormatBool Tryz.lays121 b w
open Go.RowKit in
theorem Tryz.Builder_WriteByte_k(B b:Nat)(bs:List Value)(c:Int)(w:World)(h:Lib.IsBuilderF 153 5 B b bs w)(ha:bs.length+1<=140737488355328)(Ha:B<=w.heap.size) :
  zC 145 #[zP b,zJ c] w fun e w'=>e=.returned .nilIface/\(Lib.BuilderAtF 153 5 B b (zP b) (bs++[zJ c]) w'/\Below B w w'/\Lib.OthersKept 5 (some b) w w'):=Any.Builder_WriteByte_k Tryz.lays167 Tryz.Builder_Extra_167 B b bs c w h ha Ha
open Go.RowKit in
theorem Tryz.Builder_WriteString_k(B b:Nat)(bs:List Value)(s:zT)(w:World)(h:Lib.IsBuilderF 153 5 B b bs w)(ha:bs.length+s.size<=140737488355328)(Ha:B<=w.heap.size) :
  zC 142 #[zP b,.string s] w fun e w'=>e=.returned (.tuple #[zI s.size,.nilIface])/\(Lib.BuilderAtF 153 5 B b (zP b) (bs++Lib.strCells s) w'/\Below B w w'/\Lib.OthersKept 5 (some b) w w'):=Any.Builder_WriteString_k Tryz.lays166 Tryz.Builder_Extra_166 B b bs s w h ha Ha
open Go.RowKit in
theorem Tryz.Builder_String_any_k(B b:Nat)(l:zU)(w:World)(h:Lib.IsBuilderF 153 5 B b (Lib.byteCells l) w)(ha:B<=w.heap.size) :
  zC 61 #[zP b] w fun e w'=>e=.returned (zV l)/\(Lib.IsBuilderF 153 5 B b (Lib.byteCells l) w'/\Below B w w'/\Lib.OthersKept 5 (some b) w w'):=Any.Builder_String_any_k Tryz.lays169 Tryz.Builder_Extra_169 B b l w h ha
def Tryz.lays168_ren:Go.Shelf.Ren:=⟨fun|168=>140|240=>188|242=>190|276=>221|278=>223|n=>n,fun|70=>151|21=>21|3=>3|75=>262|0=>0|72=>153|37=>82|4=>4|164=>328|51=>331|5=>5|46=>302|80=>157|9=>9|20=>20|n=>n,fun|n=>n⟩
theorem Tryz.lays168:Go.Proofs.Lays.n168 Tryz.prog Tryz.lays168_ren:=by constructor<;>first|kernel_rfl|intro _;kernel_rfl|decide
theorem Tryz.Builder_Extra_168:Builder.Extra Tryz.prog Tryz.lays168_ren:=by constructor<;>first|kernel_rfl|intro _;kernel_rfl|(constructor<;>first|kernel_rfl|intro _;kernel_rfl)|decide
open Go.RowKit in
theorem Tryz.Builder_WriteRune_k(B b:Nat)(bs:List Value)(r:Int)(Ha:-2147483648<=r)(hb:r<=2147483647)(w:World)(h:Lib.IsBuilderF 153 5 B b bs w)(ha:bs.length+4<=140737488355328)(Hb:B<=w.heap.size) :
  zC 140 #[zP b,.int .i32 r] w fun e w'=>e=.returned (.tuple #[zI (Lib.runeCells r).length,.nilIface])/\(Lib.BuilderAtF 153 5 B b (zP b) (bs++Lib.runeCells r) w'/\Below B w w'/\Lib.OthersKept 5 (some b) w w'):=Any.Builder_WriteRune_k Tryz.lays168 Tryz.Builder_Extra_168 B b bs r Ha hb w h ha Hb
def Tryz.laysM173_ren:Go.Shelf.Ren:=⟨fun|173=>217|246=>237|283=>246|284=>247|285=>248|286=>249|129=>255|317=>254|318=>256|319=>257|320=>258|337=>262|338=>263|n=>n,fun|2=>2|3=>3|9=>9|4=>4|171=>346|0=>0|53=>313|37=>82|5=>5|173=>349|212=>359|51=>331|20=>20|213=>360|46=>302|232=>364|233=>365|n=>n,fun|17=>14|18=>15|19=>16|n=>n⟩
theorem Tryz.laysM173:Go.Proofs.LaysM.n173 Tryz.prog Tryz.laysM173_ren:=by constructor<;>first|kernel_rfl|intro _;kernel_rfl|(constructor<;>first|kernel_rfl|intro _;kernel_rfl)|decide
open Go.RowKit Go.Sort Go.Lib in
theorem Tryz.strconv_FormatInt_10(n:Int)(h0:-9223372036854775808<=n)(h1:n<=9223372036854775807)(w:World)(ha:Lib.TabIs Tryz.prog w "internal/strconv.uint64pow10" .u64 Lib.pow10Tab) :
  zC 217 #[zI n,zI 10] w fun e w'=>e=.returned (zV (Lib.itoa n))/\∃k os,w'=grow (w.drewN k) os:=Any.strconv_FormatInt_10 Tryz.laysM173 n h0 h1 w ha
def Tryz.lays145_ren:Go.Shelf.Ren:=⟨fun|145=>146|220=>192|219=>225|217=>180|225=>238|224=>239|267=>240|266=>220|314=>250|n=>n,fun|9=>9|4=>4|59=>197|3=>3|5=>5|46=>302|146=>351|51=>331|n=>n,fun|1=>11|n=>n⟩
theorem Tryz.lays145:Go.Proofs.Lays.n145 Tryz.prog Tryz.lays145_ren:=by constructor<;>first|kernel_rfl|intro _;kernel_rfl|decide
open Go.RowKit Go.Lib in
theorem Tryz.strings_Cut(s sep:zT)(m:Int)(w:World)(hs:s.size<4294967281)(hm:w.cell? (zO 11 0)=some (zI m)) :
  zC 146 #[.string s,.string sep] w fun e w'=>e=.returned (.tuple #[zV ((Lib.cut s.data.toList sep.data.toList).1),zV ((Lib.cut s.data.toList sep.data.toList).2.1),.bool (Lib.cut s.data.toList sep.data.toList).2.2])/\∃n,w'=w.drewN n:=Any.strings_Cut Tryz.lays145 s sep m w hs hm
def Tryz.lays99_ren:Go.Shelf.Ren:=⟨fun|99=>191|206=>224|n=>n,fun|9=>9|4=>4|3=>3|n=>n,fun|n=>n⟩
theorem Tryz.lays99:Go.Proofs.Lays.n99 Tryz.prog Tryz.lays99_ren:=by constructor<;>first|kernel_rfl|intro _;kernel_rfl|decide
open Go.RowKit Go.Lib in
theorem Tryz.strings_HasPrefix(s p:zT)(w:World) :
  zC 191 #[.string s,.string p] w fun e w'=>e=.returned (.bool (Lib.hasPrefix s.data.toList p.data.toList))/\w'=w:=Any.strings_HasPrefix Tryz.lays99 s p w
def Tryz.lays101_ren:Go.Shelf.Ren:=⟨fun|101=>205|208=>235|206=>224|n=>n,fun|9=>9|4=>4|3=>3|n=>n,fun|n=>n⟩
theorem Tryz.lays101:Go.Proofs.Lays.n101 Tryz.prog Tryz.lays101_ren:=by constructor<;>first|kernel_rfl|intro _;kernel_rfl|decide
open Go.RowKit Go.Lib in
theorem Tryz.strings_TrimPrefix(s p:zT)(w:World) :
  zC 205 #[.string s,.string p] w fun e w'=>e=.returned (zV (Lib.trimPrefix s.data.toList p.data.toList))/\w'=w:=Any.strings_TrimPrefix Tryz.lays101 s p w
def Tryz.lays146_ren:Go.Shelf.Ren:=⟨fun|146=>242|221=>252|268=>259|138=>260|143=>261|195=>264|197=>232|218=>265|219=>225|260=>243|217=>180|225=>238|224=>239|267=>240|266=>220|314=>250|n=>n,fun|9=>9|31=>35|3=>3|4=>4|0=>0|105=>336|21=>21|5=>5|46=>302|119=>354|139=>357|138=>356|146=>351|51=>331|n=>n,fun|1=>11|3=>12|4=>13|n=>n⟩
theorem Tryz.lays146:Go.Proofs.Lays.n146 Tryz.prog Tryz.lays146_ren:=by constructor<;>first|kernel_rfl|intro _;kernel_rfl|decide
open Go.RowKit Go.Lib in
theorem Tryz.strings_Split(s sep:zT)(m:Int)(w:World)(hs:s.size<4294967281)(hm:w.cell? (zO 11 0)=some (zI m))(h1:1<=sep.size) :
  zC 242 #[.string s,.string sep] w fun e w'=>
   e=.returned (zF w.heap.size (Lib.countB s sep+1) (Lib.countB s sep+1))/\w'=w.alloc (.cells ((Lib.splitB sep 0 (Lib.countB s sep) s).map Value.string).toArray 9):=Any.strings_Split Tryz.lays146 (by kernel_rfl) s sep m w hs hm h1
def Tryz.lays151_ren:Go.Shelf.Ren:=⟨fun|151=>233|152=>244|137=>130|119=>253|224=>239|225=>238|217=>180|266=>220|n=>n,fun|9=>9|21=>21|4=>4|3=>3|5=>5|0=>0|46=>302|n=>n,fun|n=>n⟩
theorem Tryz.lays151:Go.Proofs.Lays.n151 Tryz.prog Tryz.lays151_ren:=by constructor<;>first|kernel_rfl|intro _;kernel_rfl|decide
open Go.RowKit Go.Lib in
theorem Tryz.strings_ContainsRune_ascii(s:zT)(r:Int)(w:World)(h0:0<=r)(h1:r<128) :
  zC 233 #[.string s,.int .i32 r] w fun e w'=>e=.returned (.bool (decide (0<=Lib.indexByte s.data.toList r.toNat.toUInt8)))/\w'=w:=Any.strings_ContainsRune_ascii Tryz.lays151 s r w h0 h1
def Tryz.lays229_ren:Go.Shelf.Ren:=⟨fun|229=>227|n=>n,fun|9=>9|40=>335|31=>35|152=>340|3=>3|0=>0|4=>4|21=>21|154=>342|n=>n,fun|n=>n⟩
theorem Tryz.lays229:Go.Proofs.Lays.n229 Tryz.prog Tryz.lays229_ren:=by constructor<;>first|kernel_rfl|intro _;kernel_rfl|decide
open Go.RowKit Go.Lib in
theorem Tryz.strings_FieldsFunc_grows(g:Nat)(lb:Array Value)(eg:∀args w,(callFunc g args).run Tryz.prog w=.ok (.enter g args) w)(p:Nat->Bool)(s:zT)(w:World)(hs:s.size<=4294967296)(hp:PredGrows Tryz.prog g lb p w) :
  zC 227 #[.string s,.func (.func g) #[] lb] w fun e w'=>∃A,e=.returned (zF A (Lib.goFieldsP p s).length (Lib.goFieldsP p s).length)/\w.heap.size<=A /\
   w'.ownsRow w.heap.size 9 1 (zF A (Lib.goFieldsP p s).length (Lib.goFieldsP p s).length) (Lib.goFieldsP p s).length ((Lib.goFieldsP p s).map Value.string)/\zW w w':=Any.strings_FieldsFunc_grows Tryz.lays229 g lb eg p s w hs hp (by kernel_rfl) (by kernel_rfl)
end Go.Proofs

