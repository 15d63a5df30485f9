/- Contracts and plain facts: M03. -/
import Derived.Shelf.Strings.Builder1
import Derived.Shelf.Strings.Builder2
import Derived.Shelf.Strings.OnBuilder
import Derived.Shelf.Strings.BuilderF
import Derived.Shelf.Strings.BuilderK
import Derived.Shelf.Strings.Builder2Cap
import Derived.Shelf.Strconv.Itoa0
import Derived.Shelf.Strconv.Itoa1
import Derived.Shelf.LaysM
import Derived.Shelf.Strconv.Itoa2
import Derived.Shelf.Strconv.Itoa3
import Derived.Shelf.Strings.Search1
import Derived.Shelf.Strings.Search2
import Derived.Shelf.Strings.Search3
import Derived.Shelf.Strings.Shaped
import Derived.Shelf.Strings.BuilderCap
import Derived.Shelf.Bytes.SlIndexSmall
import Derived.Shelf.Bytes.SlIndexAt
import Derived.Shelf.Bytes.SlSearch0
import Derived.Shelf.Bytes.SlSearch1
import Derived.Shelf.Bytes.SlSearch2
import Derived.Shelf.Bytes.SlIndexWhole
import Derived.Shelf.Bytes.SlSmallAll
import Derived.Shelf.Bytes.SlEqualAll
import Derived.Shelf.Bytes.Small
import Derived.Shelf.Bytes.IndexByte
import Derived.Test.YtonjnagcdnmcpaaGreatDoorM02
import Derived.Lib.Bytes
import Derived.Laws.Rows
import Derived.Deep.MidRow
import Derived.IntWalk
import Derived.Deep.QuietTactic
import Derived.BigQuiet
import Derived.Laws.StructEq
set_option linter.unusedVariables false
set_option linter.unusedSimpArgs false
set_option maxRecDepth 100000
set_option maxHeartbeats 32000000
namespace Go.Proofs
open Go.Shelf
def Tryz.lays156_ren : Go.Shelf.Ren:=⟨fun | 156 => 85 | 165 => 106 | 166 => 107 | 169 => 108 | 240 => 126 | 241 => 127 | 276 => 140 | 277 => 141 | n => n,fun | 31 => 75 | 9 => 9 | 3 => 3 | 4 => 4 | 0 => 0 | 20 => 20 | 72 => 130 | 76 => 134 | 70 => 128 | 37 => 22 | 75 => 133 | 127 => 150 | 164 => 162 | 5 => 5 | 80 => 136 | n => n,fun | n => n⟩
theorem Tryz.lays156 : Go.Proofs.Lays.n156 Tryz.prog Tryz.lays156_ren:={
 mixed:=by kernel_rfl
 f156:=Tryz.func85.trans (congrArg some (by kernel_rfl))
 f165:=Tryz.func106.trans (congrArg some (by kernel_rfl))
 f166:=Tryz.func107.trans (congrArg some (by kernel_rfl))
 f169:=Tryz.func108.trans (congrArg some (by kernel_rfl))
 f240:=Tryz.func126.trans (congrArg some (by kernel_rfl))
 f241:=Tryz.func127.trans (congrArg some (by kernel_rfl))
 f276:=Tryz.func140.trans (congrArg some (by kernel_rfl))
 f277:=Tryz.func141.trans (congrArg some (by kernel_rfl))
 t0:=Tryz.underlying0
 a0:=Tryz.isAgg0
 z0:=Tryz.sizeOf0
 v0:=Tryz.zeroValue0
 t3:=Tryz.underlying3
 a3:=Tryz.isAgg3
 z3:=Tryz.sizeOf3
 v3:=Tryz.zeroValue3
 t4:=Tryz.underlying4
 a4:=Tryz.isAgg4
 z4:=Tryz.sizeOf4
 v4:=Tryz.zeroValue4
 t9:=Tryz.underlying9
 a9:=Tryz.isAgg9
 z9:=Tryz.sizeOf9
 v9:=Tryz.zeroValue9
 t20:=Tryz.underlying20
 a20:=Tryz.isAgg20
 z20:=Tryz.sizeOf20
 v20:=Tryz.zeroValue20
 t31:=Tryz.underlying75
 a31:=Tryz.isAgg75
 z31:=Tryz.sizeOf75
 v31:=Tryz.zeroValue75
 t37:=Tryz.underlying22
 a37:=Tryz.isAgg22
 z37:=Tryz.sizeOf22
 v37:=Tryz.zeroValue22
 t70:=Tryz.underlying128
 a70:=Tryz.isAgg128
 z70:=Tryz.sizeOf128
 v70:=Tryz.zeroValue128
 t72:=Tryz.underlying130
 a72:=Tryz.isAgg130
 z72:=Tryz.sizeOf130
 v72:=Tryz.zeroValue130
 t75:=Tryz.underlying133
 a75:=Tryz.isAgg133
 z75:=Tryz.sizeOf133
 v75:=Tryz.zeroValue133
 t76:=Tryz.underlying134
 a76:=Tryz.isAgg134
 z76:=Tryz.sizeOf134
 v76:=Tryz.zeroValue134
 t127:=Tryz.underlying150
 a127:=Tryz.isAgg150
 z127:=Tryz.sizeOf150
 v127:=Tryz.zeroValue150
 t164:=Tryz.underlying162
 a164:=Tryz.isAgg162
 z164:=Tryz.sizeOf162
 v164:=Tryz.zeroValue162 }
theorem Tryz.Builder_Extra_156 : Builder.Extra Tryz.prog Tryz.lays156_ren:={
 sizeBuilder:=by kernel_rfl
 liesBuilder:=by kernel_rfl
 t5:=Tryz.underlying5
 a5:=Tryz.isAgg5
 z5:=Tryz.sizeOf5
 v5:=Tryz.zeroValue5
 infoByte:=by kernel_rfl
 cellsByte:=by kernel_rfl
 sizeByte:=by kernel_rfl
 neB5:=by decide }
open Go.RowKit in
theorem Tryz.strings_Join_none (a : Option Addr) (c : Nat) (sep : ByteArray) (w : World) :
    Calls Tryz.prog 85 #[.slice a 0 c,.string sep] w fun e w' => e = .returned (.string ⟨#[]⟩) ∧ w' = w:=Any.strings_Join_none Tryz.lays156 Tryz.Builder_Extra_156 a c sep w
open Go.RowKit in
theorem Tryz.strings_Join (bk o c : Nat) (xs : List ByteArray) (sep : ByteArray) (w : World) (hcells : ∀ (j : Nat) x,xs[j]? = some x → w.cell? ⟨bk,o + j,none⟩ = some (.string x)) (hbk : bk < w.heap.size) (hN : xs.length ≤ 140737488355328) (hcap : xs.length ≤ c) (hlen : (Lib.join (xs.map (·.data.toList)) sep.data.toList).length ≤ 140737488355328) :
    Calls Tryz.prog 85 #[.slice (some ⟨bk,o,none⟩) xs.length c,.string sep] w fun e w' => e = .returned (.string ⟨(Lib.join (xs.map (·.data.toList)) sep.data.toList).toArray⟩) ∧ Below w.heap.size w w':=Any.strings_Join Tryz.lays156 Tryz.Builder_Extra_156 bk o c xs sep w hcells hbk hN hcap hlen
def Tryz.laysM171_ren : Go.Shelf.Ren:=⟨fun | 171 => 87 | 243 => 109 | 246 => 128 | 283 => 142 | 284 => 143 | 285 => 144 | 286 => 145 | 129 => 155 | 317 => 154 | 318 => 156 | 319 => 157 | 320 => 158 | 337 => 167 | 338 => 168 | n => n,fun | 3 => 3 | 9 => 9 | 2 => 2 | 4 => 4 | 171 => 165 | 0 => 0 | 53 => 39 | 37 => 22 | 5 => 5 | 173 => 167 | 212 => 176 | 51 => 173 | 20 => 20 | 213 => 177 | 46 => 159 | 232 => 186 | 233 => 187 | n => n,fun | 17 => 1 | 18 => 2 | 19 => 3 | n => n⟩
theorem Tryz.laysM171 : Go.Proofs.LaysM.n171 Tryz.prog Tryz.laysM171_ren:={
 mixed:=by kernel_rfl
 f129:=Tryz.func155.trans (congrArg some (by kernel_rfl))
 f171:=Tryz.func87.trans (congrArg some (by kernel_rfl))
 f243:=Tryz.func109.trans (congrArg some (by kernel_rfl))
 f246:=Tryz.func128.trans (congrArg some (by kernel_rfl))
 f283:=Tryz.func142.trans (congrArg some (by kernel_rfl))
 f284:=Tryz.func143.trans (congrArg some (by kernel_rfl))
 f285:=Tryz.func144.trans (congrArg some (by kernel_rfl))
 f286:=Tryz.func145.trans (congrArg some (by kernel_rfl))
 f317:=Tryz.func154.trans (congrArg some (by kernel_rfl))
 f318:=Tryz.func156.trans (congrArg some (by kernel_rfl))
 f319:=Tryz.func157.trans (congrArg some (by kernel_rfl))
 f320:=Tryz.func158.trans (congrArg some (by kernel_rfl))
 f337:=Tryz.func167.trans (congrArg some (by kernel_rfl))
 f338:=Tryz.func168.trans (congrArg some (by kernel_rfl))
 t0:=Tryz.underlying0
 a0:=Tryz.isAgg0
 z0:=Tryz.sizeOf0
 v0:=Tryz.zeroValue0
 t2:=Tryz.underlying2
 a2:=Tryz.isAgg2
 z2:=Tryz.sizeOf2
 v2:=Tryz.zeroValue2
 t3:=Tryz.underlying3
 a3:=Tryz.isAgg3
 z3:=Tryz.sizeOf3
 v3:=Tryz.zeroValue3
 t4:=Tryz.underlying4
 a4:=Tryz.isAgg4
 z4:=Tryz.sizeOf4
 v4:=Tryz.zeroValue4
 t5:=Tryz.underlying5
 a5:=Tryz.isAgg5
 z5:=Tryz.sizeOf5
 v5:=Tryz.zeroValue5
 t9:=Tryz.underlying9
 a9:=Tryz.isAgg9
 z9:=Tryz.sizeOf9
 v9:=Tryz.zeroValue9
 t20:=Tryz.underlying20
 a20:=Tryz.isAgg20
 z20:=Tryz.sizeOf20
 v20:=Tryz.zeroValue20
 t37:=Tryz.underlying22
 a37:=Tryz.isAgg22
 z37:=Tryz.sizeOf22
 v37:=Tryz.zeroValue22
 t46:=Tryz.underlying159
 a46:=Tryz.isAgg159
 z46:=Tryz.sizeOf159
 v46:=Tryz.zeroValue159
 t51:=Tryz.underlying173
 a51:=Tryz.isAgg173
 z51:=Tryz.sizeOf173
 v51:=Tryz.zeroValue173
 t53:=Tryz.underlying39
 a53:=Tryz.isAgg39
 z53:=Tryz.sizeOf39
 v53:=Tryz.zeroValue39
 t171:=Tryz.underlying165
 a171:=Tryz.isAgg165
 z171:=Tryz.sizeOf165
 v171:=Tryz.zeroValue165
 t173:=Tryz.underlying167
 a173:=Tryz.isAgg167
 z173:=Tryz.sizeOf167
 v173:=Tryz.zeroValue167
 t212:=Tryz.underlying176
 a212:=Tryz.isAgg176
 z212:=Tryz.sizeOf176
 v212:=Tryz.zeroValue176
 t213:=Tryz.underlying177
 a213:=Tryz.isAgg177
 z213:=Tryz.sizeOf177
 t232:=Tryz.underlying186
 a232:=Tryz.isAgg186
 z232:=Tryz.sizeOf186
 v232:=Tryz.zeroValue186
 t233:=Tryz.underlying187
 a233:=Tryz.isAgg187
 z233:=Tryz.sizeOf187
 v233:=Tryz.zeroValue187
 g17:=by kernel_rfl
 g18:=by kernel_rfl
 g19:=by kernel_rfl
 i0:=by kernel_rfl
 i2:=by kernel_rfl
 i3:=by kernel_rfl
 i4:=by kernel_rfl
 i5:=by kernel_rfl
 i9:=by kernel_rfl
 i20:=by kernel_rfl
 i37:=by kernel_rfl
 i46:=by kernel_rfl
 i51:=by kernel_rfl
 i53:=by kernel_rfl
 i171:=by kernel_rfl
 i173:=by kernel_rfl
 i212:=by kernel_rfl
 i232:=by kernel_rfl
 i233:=by kernel_rfl
 m17:=by kernel_rfl
 m18:=by kernel_rfl
 m19:=by kernel_rfl }
open Go.RowKit Go.Sort Go.Lib in
theorem Tryz.strconv_Itoa (n : Int) (h0 : -9223372036854775808 ≤ n) (h1 : n ≤ 9223372036854775807) (w : World) (htab : Lib.TabIs Tryz.prog w "internal/strconv.uint64pow10" .u64 Lib.pow10Tab) :
    Calls Tryz.prog 87 #[.int .i64 n] w fun e w' => e = .returned (.string ⟨(Lib.itoa n).toArray⟩) ∧ ∃ k os,w' = grow (w.drewN k) os:=Any.strconv_Itoa Tryz.laysM171 n h0 h1 w htab
def Tryz.lays144_ren : Go.Shelf.Ren:=⟨fun | 144 => 84 | 143 => 105 | 219 => 125 | 217 => 136 | 225 => 137 | 224 => 138 | 267 => 139 | 266 => 152 | 314 => 153 | n => n,fun | 9 => 9 | 4 => 4 | 3 => 3 | 5 => 5 | 46 => 159 | 146 => 174 | 51 => 173 | n => n,fun | 1 => 0 | n => n⟩
theorem Tryz.lays144 : Go.Proofs.Lays.n144 Tryz.prog Tryz.lays144_ren:={
 mixed:=by kernel_rfl
 f143:=Tryz.func105.trans (congrArg some (by kernel_rfl))
 f144:=Tryz.func84.trans (congrArg some (by kernel_rfl))
 f217:=Tryz.func136.trans (congrArg some (by kernel_rfl))
 f219:=Tryz.func125.trans (congrArg some (by kernel_rfl))
 f224:=Tryz.func138.trans (congrArg some (by kernel_rfl))
 f225:=Tryz.func137.trans (congrArg some (by kernel_rfl))
 f266:=Tryz.func152.trans (congrArg some (by kernel_rfl))
 f267:=Tryz.func139.trans (congrArg some (by kernel_rfl))
 f314:=Tryz.func153.trans (congrArg some (by kernel_rfl))
 t3:=Tryz.underlying3
 a3:=Tryz.isAgg3
 z3:=Tryz.sizeOf3
 v3:=Tryz.zeroValue3
 t4:=Tryz.underlying4
 a4:=Tryz.isAgg4
 z4:=Tryz.sizeOf4
 v4:=Tryz.zeroValue4
 t5:=Tryz.underlying5
 a5:=Tryz.isAgg5
 z5:=Tryz.sizeOf5
 v5:=Tryz.zeroValue5
 t9:=Tryz.underlying9
 a9:=Tryz.isAgg9
 z9:=Tryz.sizeOf9
 v9:=Tryz.zeroValue9
 t46:=Tryz.underlying159
 a46:=Tryz.isAgg159
 z46:=Tryz.sizeOf159
 v46:=Tryz.zeroValue159
 t51:=Tryz.underlying173
 a51:=Tryz.isAgg173
 z51:=Tryz.sizeOf173
 v51:=Tryz.zeroValue173
 t146:=Tryz.underlying174
 a146:=Tryz.isAgg174
 z146:=Tryz.sizeOf174
 v146:=Tryz.zeroValue174
 g1:=by kernel_rfl }
open Go.RowKit Go.Lib in
theorem Tryz.strings_Contains_one (s : ByteArray) (c : UInt8) (w : World) :
    Calls Tryz.prog 84 #[.string s,.string ⟨#[c]⟩] w fun e w' => e = .returned (.bool (decide (0 ≤ Lib.indexByte s.data.toList c))) ∧ w' = w:=Any.strings_Contains_one Tryz.lays144 s c w
def Tryz.lays185_ren : Go.Shelf.Ren:=⟨fun | 185 => 177 | 187 => 178 | 115 => 111 | 253 => 179 | 224 => 138 | 254 => 180 | 255 => 181 | 291 => 182 | n => n,fun | 37 => 22 | 3 => 3 | 4 => 4 | 0 => 0 | 5 => 5 | 46 => 159 | 9 => 9 | 146 => 174 | 51 => 173 | n => n,fun | 1 => 0 | n => n⟩
theorem Tryz.lays185 : Go.Proofs.Lays.n185 Tryz.prog Tryz.lays185_ren:={
 mixed:=by kernel_rfl
 f115:=Tryz.func111.trans (congrArg some (by kernel_rfl))
 f185:=Tryz.func177.trans (congrArg some (by kernel_rfl))
 f187:=Tryz.func178.trans (congrArg some (by kernel_rfl))
 f224:=Tryz.func138.trans (congrArg some (by kernel_rfl))
 f253:=Tryz.func179.trans (congrArg some (by kernel_rfl))
 f254:=Tryz.func180.trans (congrArg some (by kernel_rfl))
 f255:=Tryz.func181.trans (congrArg some (by kernel_rfl))
 f291:=Tryz.func182.trans (congrArg some (by kernel_rfl))
 t0:=Tryz.underlying0
 a0:=Tryz.isAgg0
 z0:=Tryz.sizeOf0
 v0:=Tryz.zeroValue0
 t3:=Tryz.underlying3
 a3:=Tryz.isAgg3
 z3:=Tryz.sizeOf3
 v3:=Tryz.zeroValue3
 t4:=Tryz.underlying4
 a4:=Tryz.isAgg4
 z4:=Tryz.sizeOf4
 v4:=Tryz.zeroValue4
 t5:=Tryz.underlying5
 a5:=Tryz.isAgg5
 z5:=Tryz.sizeOf5
 v5:=Tryz.zeroValue5
 t9:=Tryz.underlying9
 a9:=Tryz.isAgg9
 z9:=Tryz.sizeOf9
 v9:=Tryz.zeroValue9
 t37:=Tryz.underlying22
 a37:=Tryz.isAgg22
 z37:=Tryz.sizeOf22
 v37:=Tryz.zeroValue22
 t46:=Tryz.underlying159
 a46:=Tryz.isAgg159
 z46:=Tryz.sizeOf159
 v46:=Tryz.zeroValue159
 t51:=Tryz.underlying173
 a51:=Tryz.isAgg173
 z51:=Tryz.sizeOf173
 v51:=Tryz.zeroValue173
 t146:=Tryz.underlying174
 a146:=Tryz.isAgg174
 z146:=Tryz.sizeOf174
 v146:=Tryz.zeroValue174
 g1:=by kernel_rfl }
open Go.RowKit Go.Lib in
theorem Tryz.bytes_Index_longer (p q : Option Addr) (n c m d : Nat) (w : World) (h2 : 2 ≤ m) (hnm : n < m) (hm : m ≤ 9223372036854775807) :
    Calls Tryz.prog 177 #[.slice p n c,.slice q m d] w fun e w' => e = .returned (.int .i64 (-1)) ∧ w' = w:=Any.bytes_Index_longer Tryz.lays185 p q n c m d w h2 hnm hm
open Go.Proofs Go.RowKit Go.Lib in
theorem Tryz.bytes_Index_at (a1 a2 : Addr) (n c1 k c2 : Nat) (xs ys : List Int) (m : Int) (w : World) (hx : xs.length = n) (hy : ys.length = k) (hr1 : ∀ x ∈ xs,0 ≤ x ∧ x < 256) (hr2 : ∀ y ∈ ys,0 ≤ y ∧ y < 256) (hc1 : ∀ i,i < n → w.cell? (a1.add i) = some (.int .u8 (xs.getD i 0))) (hc2 : ∀ i,i < k → w.cell? (a2.add i) = some (.int .u8 (ys.getD i 0))) (hcap : n ≤ c1) (hs : n < 4294967281) (hk : k ≤ 9223372036854775807) (hm : w.cell? ⟨0,0,none⟩ = some (.int .i64 m)) :
    Calls Tryz.prog 177 #[.slice (some a1) n c1,.slice (some a2) k c2] w fun e w' => e = .returned (.int .i64 (Lib.index (Lib.bytesOf xs) (Lib.bytesOf ys))) ∧ ∃ q,w' = w.drewN q:=Any.bytes_Index_at Tryz.lays185 a1 a2 n c1 k c2 xs ys m w hx hy hr1 hr2 hc1 hc2 hcap hs hk hm
def Tryz.laysM185_ren : Go.Shelf.Ren:=⟨fun | 185 => 177 | 187 => 178 | 115 => 111 | 253 => 179 | 224 => 138 | 254 => 180 | 255 => 181 | 291 => 182 | n => n,fun | 37 => 22 | 3 => 3 | 4 => 4 | 0 => 0 | 5 => 5 | 46 => 159 | 9 => 9 | 146 => 174 | 51 => 173 | n => n,fun | 1 => 0 | n => n⟩
theorem Tryz.laysM185 : Go.Proofs.LaysM.n185 Tryz.prog Tryz.laysM185_ren:={
 mixed:=by kernel_rfl
 f115:=Tryz.func111.trans (congrArg some (by kernel_rfl))
 f185:=Tryz.func177.trans (congrArg some (by kernel_rfl))
 f187:=Tryz.func178.trans (congrArg some (by kernel_rfl))
 f224:=Tryz.func138.trans (congrArg some (by kernel_rfl))
 f253:=Tryz.func179.trans (congrArg some (by kernel_rfl))
 f254:=Tryz.func180.trans (congrArg some (by kernel_rfl))
 f255:=Tryz.func181.trans (congrArg some (by kernel_rfl))
 f291:=Tryz.func182.trans (congrArg some (by kernel_rfl))
 t0:=Tryz.underlying0
 a0:=Tryz.isAgg0
 z0:=Tryz.sizeOf0
 v0:=Tryz.zeroValue0
 t3:=Tryz.underlying3
 a3:=Tryz.isAgg3
 z3:=Tryz.sizeOf3
 v3:=Tryz.zeroValue3
 t4:=Tryz.underlying4
 a4:=Tryz.isAgg4
 z4:=Tryz.sizeOf4
 v4:=Tryz.zeroValue4
 t5:=Tryz.underlying5
 a5:=Tryz.isAgg5
 z5:=Tryz.sizeOf5
 v5:=Tryz.zeroValue5
 t9:=Tryz.underlying9
 a9:=Tryz.isAgg9
 z9:=Tryz.sizeOf9
 v9:=Tryz.zeroValue9
 t37:=Tryz.underlying22
 a37:=Tryz.isAgg22
 z37:=Tryz.sizeOf22
 v37:=Tryz.zeroValue22
 t46:=Tryz.underlying159
 a46:=Tryz.isAgg159
 z46:=Tryz.sizeOf159
 v46:=Tryz.zeroValue159
 t51:=Tryz.underlying173
 a51:=Tryz.isAgg173
 z51:=Tryz.sizeOf173
 v51:=Tryz.zeroValue173
 t146:=Tryz.underlying174
 a146:=Tryz.isAgg174
 z146:=Tryz.sizeOf174
 v146:=Tryz.zeroValue174
 g1:=by kernel_rfl
 i0:=by kernel_rfl
 i3:=by kernel_rfl
 i4:=by kernel_rfl
 i5:=by kernel_rfl
 i9:=by kernel_rfl
 i37:=by kernel_rfl
 i46:=by kernel_rfl
 i51:=by kernel_rfl
 i146:=by kernel_rfl
 m1:=by kernel_rfl
 s1_3:=fun w h => Go.Proofs.cell_of_shapedOpen_int (zero:=#[.int .i64 0]) (t:=3) h (of_decide_eq_true (by kernel_rfl)) (by kernel_rfl) rfl (by kernel_rfl) (by kernel_rfl) Tryz.underlying3 }
def Tryz.laysnb116_ren : Go.Shelf.Ren:=⟨fun | 116 => 91 | 115 => 111 | n => n,fun | 37 => 22 | 4 => 4 | 3 => 3 | 9 => 9 | 5 => 5 | n => n,fun | n => n⟩
theorem Tryz.laysnb116 : Go.Proofs.Lays.nb116 Tryz.prog Tryz.laysnb116_ren:={
 mixed:=by kernel_rfl
 f115:=Tryz.func111.trans (congrArg some (by kernel_rfl))
 f116:=Tryz.func91.trans (congrArg some (by kernel_rfl))
 t3:=Tryz.underlying3
 a3:=Tryz.isAgg3
 z3:=Tryz.sizeOf3
 v3:=Tryz.zeroValue3
 t4:=Tryz.underlying4
 a4:=Tryz.isAgg4
 z4:=Tryz.sizeOf4
 v4:=Tryz.zeroValue4
 t9:=Tryz.underlying9
 a9:=Tryz.isAgg9
 z9:=Tryz.sizeOf9
 v9:=Tryz.zeroValue9
 t37:=Tryz.underlying22
 a37:=Tryz.isAgg22
 z37:=Tryz.sizeOf22
 v37:=Tryz.zeroValue22
 t5:=Tryz.underlying5
 a5:=Tryz.isAgg5
 z5:=Tryz.sizeOf5
 v5:=Tryz.zeroValue5 }
theorem Tryz.bytes_HasPrefix_all (p1 p2 : Option Addr) (n c m d : Nat) (xs ys : List Int) (w : World) (hx : xs.length = n) (hy : ys.length = m) (hnc : n ≤ c) (h1 : Lib.BytesIn w p1 n xs) (h2 : Lib.BytesIn w p2 m ys) :
    Calls Tryz.prog 91 #[.slice p1 n c,.slice p2 m d] w fun e w' => e = .returned (.bool (Lib.hasPrefix (Lib.bytesOf xs) (Lib.bytesOf ys))) ∧ w' = w:=Any.bytes_HasPrefix_all Tryz.laysnb116 p1 p2 n c m d xs ys w hx hy hnc h1 h2
end Go.Proofs
namespace Go.Proofs.YtonjnagcdnmcpaaGreatDoor
open Go.RowKit
def ints (l : List UInt8) : List Int:=l.map fun c => (c.toNat : Int)
theorem ints_len (l : List UInt8) : (ints l).length = l.length:=by simp [ints]
theorem ints_bytes (l : List UInt8) : Lib.bytesOf (ints l) = l:=by
 unfold Lib.bytesOf ints;rw [List.map_map]
 have : ((fun n : Int => UInt8.ofNat n.toNat) ∘ fun c : UInt8 => (c.toNat : Int)) = id:=by funext c;simp
 rw [this,List.map_id]
theorem Byt.cells {w : World} {B : Nat} {a : Addr} {l : List UInt8} (h : Byt w B (some a) l) : ∀ i,i < l.length → w.cell? (a.add i) = some (.int .u8 ((ints l).getD i 0)):=by
 intro i hi
 obtain ⟨ad,hA,_,hc⟩:=h.at_ hi
 injection hA with hA
 subst hA
 rw [hc]
 simp [ints,List.getD,hi]
theorem Byt.none_nil {w : World} {B : Nat} {l : List UInt8} (h : Byt w B none l) : l = []:=by
 cases l with
 | nil => rfl
 | cons x r => obtain ⟨ad,h,_⟩:=h.at_ (k:=0) (by simp);cases h
def Held (w : World) (g : Nat) (t : TypeId) (cs : Array Value) : Prop:=w.heap[g]? = some (.cells cs t (0,0))
section
variable {w w' : World} {g g' : Nat} {t t' : TypeId} {cs cs' : Array Value}
theorem Held.lt (h : Held w g t cs) : g < w.heap.size:=(Array.getElem?_eq_some_iff.1 h).1
theorem Held.at_ (h : Held w g t cs) {i : Nat} {v : Value} (hv : cs[i]? = some v) : w.cell? ⟨g,i,none⟩ = some v:=by rw [cell_of_row w g i cs t (0,0) h];exact hv
theorem Held.thawed (h : Held w g t cs) (i : Nat) : w.frozen? ⟨g,i,none⟩ = false:=frozen_of_row w g i cs t h
theorem Held.drew (h : Held w g t cs) : Held w.drew g t cs:=h
theorem Held.drewN (h : Held w g t cs) (n : Nat) : Held (w.drewN n) g t cs:=h
theorem Held.alloc (h : Held w g t cs) (o : Obj) : Held (w.alloc o) g t cs:=(Below.heap_alloc w o g h.lt).trans h
theorem Held.below {B : Nat} (h : Held w g t cs) (hb : Below B w w') (hg : g < B) : Held w' g t cs:=(hb.block g hg).trans h
theorem Held.keep (h : Held w g t cs) (hb : Below w.heap.size w w') : Held w' g t cs:=h.below hb h.lt
theorem Held.far {a : Addr} (h : Held w g t cs) (hne : g ≠ a.block) (v : Value) : Held (w.setCell a v) g t cs:=(heap_setCell_other w a g v hne).trans h
theorem Held.put (h : Held w g t cs) (i : Nat) (v : Value) : Held (w.setCell ⟨g,i,none⟩ v) g t (cs.setIfInBounds i v):=heap_setCell_same w g i cs t v h
theorem Held.row (h : Held w g t cs) (cs' : Array Value) : Held (w.setRow g cs') g t cs':=setRow_heap w g _ _ _ _ h
theorem Held.row_far (h : Held w g t cs) (hne : g ≠ g') (cs' : Array Value) : Held (w.setRow g' cs') g t cs:=(setRow_other w g' g cs' hne).trans h
theorem Held.grown {r : Option Nat} (h : Held w g t cs) (hg : w.grownBy w' r) (hne : some g ≠ r) : Held w' g t cs:=(hg.block g h.lt hne).trans h
theorem Held.range (h : Held w g t cs) : w.rangeAt g 0 cs.toList:=fun j v hj => by rw [Nat.zero_add];exact h.at_ (by simpa using hj)
theorem held_new (w : World) (t : TypeId) (cs : Array Value) : Held (w.alloc (.cells cs t)) w.heap.size t cs:=heap_alloc_new w _
theorem held_new2 (w : World) (o : Obj) (t : TypeId) (cs : Array Value) : Held ((w.alloc o).alloc (.cells cs t)) (w.heap.size + 1) t cs:=heap_alloc2_new w o _
theorem Held.apart (h : Held w g t cs) (h' : Held w g' t' cs') (hne : t ≠ t') : g ≠ g':=by
 rintro rfl
 unfold Held at h h'
 rw [h] at h'
 injection h' with h'
 injection h' with _ h'
 exact hne h'
theorem Held.not_own {base : Nat} {e : TypeId} {size n : Nat} {v : Value} {xs : List Value} (h : Held w g t cs) (ho : w.ownsRow base e size v n xs) (hne : e ≠ t) : v.ownBlock ≠ some g:=by
 intro hv
 rcases ho.2 with ⟨rfl,_⟩ | ⟨g',cap,cur,rfl,_,hh,_⟩
 · cases hv
 · have e1 : g' = g:=by simpa [Value.ownBlock] using hv
   subst e1
   exact Held.apart (t:=e) hh h hne rfl
theorem sizeA' (w : World) (o : Obj) : (w.alloc o).heap.size = w.heap.size + 1:=by simp
end
theorem results_cell_two {P : Program} {fn : Func} {p q : Tmp} {ty : TypeId} (h : fn.results = #[.cell p ty,.tmp q]) (tmps : Array Value) (w : World) (g : Nat) (t : TypeId) (cs : Array Value) (fr : Nat × Nat) (d : TypeDesc)
    (hp : tmps.getD p undef = .pointer (some ⟨g,0,none⟩)) {x : Value} (hx : tmps.getD q undef = x) (hg : w.heap[g]? = some (.cells cs t fr))
    (hu : P.underlying ty = some d) (hd : (match d with | .struct _ | .array _ _ => true | _ => false) = true) (hi : (P.info? ty).map (·.size) = some cs.size) :
    (results fn tmps).run P w = .ok (.tuple #[.agg cs,x]) w:=by
 have hp' : tmps[p]?.getD undef = .pointer (some ⟨g,0,none⟩):=by simpa using hp
 have hx' : tmps[q]?.getD undef = x:=by simpa using hx
 simp [results,h,hp',hx',asAddr,run_loadVar_row w g t ty cs fr d hg hu hd hi]
theorem set_size (f : Nat → Bool) : (Tryz.prog.info? 41).map (·.size) = some (setC f).size:=by kernel_rfl
theorem set_cells (f : Nat → Bool) : (setC f).all (·.oneCell') = true:=by simp [setC,Value.oneCell']
theorem set_hold (f g : Nat → Bool) : (setC f).size = (setC g).size:=by simp [setC]
theorem setC_none : setC (fun _ => false) = #[.int .u64 0,.int .u64 0,.int .u64 0,.int .u64 0]:=by
 unfold setC;rw [wd_none,wd_none,wd_none,wd_none];rfl
def SetAt (w : World) (g : Nat) (f : Nat → Bool) : Prop:=w.heap[g]? = some (.cells (setC f) 41 (0,0))
section
variable {w w' : World} {g : Nat} {f : Nat → Bool}
theorem SetAt.lt (h : SetAt w g f) : g < w.heap.size:=by
 unfold SetAt at h
 exact (Array.getElem?_eq_some_iff.1 h).1
theorem SetAt.cell (h : SetAt w g f) (k : Nat) (hk : k = 0 ∨ k = 1 ∨ k = 2 ∨ k = 3) : w.cell? ⟨g,k,none⟩ = some (.int .u64 ((wd f k : Nat) : Int)):=by
 rw [cell_of_row w g k _ _ _ h]
 rcases hk with rfl | rfl | rfl | rfl <;> rfl
theorem SetAt.cell' (h : SetAt w g f) {k : Nat} (hk : k = 0 ∨ k = 1 ∨ k = 2 ∨ k = 3) : w.cell? ⟨g,k,none⟩ = some (.int .u64 ((wd f k : Nat) : Int)):=h.cell k hk
theorem SetAt.thawed (h : SetAt w g f) (k : Nat) : w.frozen? ⟨g,k,none⟩ = false:=frozen_of_row w g k _ _ h
theorem SetAt.below {B : Nat} (h : SetAt w g f) (hb : Below B w w') (hg : g < B) : SetAt w' g f:=by
 unfold SetAt at h ⊢;rw [hb.block g hg];exact h
theorem SetAt.put (h : SetAt w g f) (f' : Nat → Bool) : SetAt (w.setRow g (setC f')) g f':=setRow_heap w g _ _ _ _ h
theorem SetAt.put_other {g' : Nat} (h : SetAt w g f) (hne : g ≠ g') (cs : Array Value) : SetAt (w.setRow g' cs) g f:=by
 unfold SetAt at h ⊢;rw [setRow_other w g' g cs hne];exact h
theorem SetAt.set_other {a : Addr} {v : Value} (h : SetAt w g f) (hne : g ≠ a.block) : SetAt (w.setCell a v) g f:=by
 unfold SetAt at h ⊢;rw [heap_setCell_other w a g v hne];exact h
theorem SetAt.alloc (h : SetAt w g f) (o : Obj) : SetAt (w.alloc o) g f:=by
 have hl:=h.lt
 unfold SetAt at h ⊢;rw [Below.heap_alloc w o g hl];exact h
theorem below_put {B : Nat} {w0 : World} (hb : Below B w0 w) (hg : B ≤ g) (cs : Array Value) : Below B w0 (w.setRow g cs) :=
 ⟨hb.os,hb.tape,hb.output,by rw [size_setRow];exact hb.size,fun k hk => by rw [setRow_other w g k cs (by omega)];exact hb.block k hk⟩
theorem set_new (w : World) (f : Nat → Bool) : SetAt (w.alloc (.cells (setC f) 41)) w.heap.size f:=heap_alloc_new _ _
theorem set_zero (w : World) : SetAt (w.alloc (.cells #[.int .u64 0,.int .u64 0,.int .u64 0,.int .u64 0] 41)) w.heap.size (fun _ => false):=by
 have:=set_new w (fun _ => false)
 rw [setC_none] at this
 exact this
theorem set_zero_at (w : World) (g : Nat) (hg : g = w.heap.size) : SetAt (w.alloc (.cells #[.int .u64 0,.int .u64 0,.int .u64 0,.int .u64 0] 41)) g (fun _ => false):=hg ▸ set_zero w
theorem SetAt.drew (h : SetAt w g f) (n : Nat) : SetAt (w.drewN n) g f:=h
end
def sameS (f g : Nat → Bool) : Bool:=decide (wd f 0 = wd g 0 ∧ wd f 1 = wd g 1 ∧ wd f 2 = wd g 2 ∧ wd f 3 = wd g 3)
theorem sameS_iff (f g : Nat → Bool) : sameS f g = true ↔ alike f g:=by
 unfold sameS
 rw [decide_eq_true_eq]
 exact ⟨fun ⟨h0,h1,h2,h3⟩ => alike_of h0 h1 h2 h3,fun h => ⟨h.wd 0 (by decide),h.wd 1 (by decide),h.wd 2 (by decide),h.wd 3 (by decide)⟩⟩
theorem sameS_of {f g : Nat → Bool} (h : alike f g) : sameS f g = true:=(sameS_iff f g).2 h
theorem sameS_not {f g : Nat → Bool} (h : ¬ alike f g) : sameS f g = false:=by
 cases hs : sameS f g
 · rfl
 · exact absurd ((sameS_iff f g).1 hs) h
theorem guard_set : Tryz.prog.eqGuardType Tryz.prog.depth 41 = false:=by kernel_rfl
theorem size_u64 : (Tryz.prog.info? 39).map (·.size) = some 1:=by kernel_rfl
theorem run_size_u64 (w : World) : (sizeOf 39).run Tryz.prog w = .ok 1 w:=by
 obtain ⟨i,hi,hs⟩:=Option.map_eq_some_iff.1 size_u64
 simp [sizeOf,typeInfo,hi,hs]
theorem run_isAgg_u64 (w : World) : (isAgg 39).run Tryz.prog w = .ok false w:=by
 unfold isAgg
 rw [Sem.run_bind,run_underlying Tryz.underlying39]
 rfl
theorem run_part_u64 (w : World) (x : Int) (c : Array Value) (i : Nat) (h : c[i]? = some (.int .u64 x)) : (part 39 c (i * 1)).run Tryz.prog w = .ok (.int .u64 x) w:=by
 unfold part
 rw [Sem.run_bind,run_isAgg_u64]
 simp [h]
theorem run_equalIn_set' (D : Nat) (h : ∀ (a b : Int) (w : World),(Op.equalIn D 39 (.int .u64 a) (.int .u64 b)).run Tryz.prog w = .ok (a == b) w) (w : World) (f g : Nat → Bool) : (Op.equalIn (D + 1) 41 (setV f) (setV g)).run Tryz.prog w = .ok (sameS f g) w:=by
 have p0:=fun (f : Nat → Bool) (w : World) => run_part_u64 w ((wd f 0 : Nat) : Int) (setC f) 0 rfl
 have p1:=fun (f : Nat → Bool) (w : World) => run_part_u64 w ((wd f 1 : Nat) : Int) (setC f) 1 rfl
 have p2:=fun (f : Nat → Bool) (w : World) => run_part_u64 w ((wd f 2 : Nat) : Int) (setC f) 2 rfl
 have p3:=fun (f : Nat → Bool) (w : World) => run_part_u64 w ((wd f 3 : Nat) : Int) (setC f) 3 rfl
 unfold setV
 simp only [Op.equalIn,Sem.run_bind,run_underlying Tryz.underlying41,Result.andThen_ok,run_size_u64]
 have e4 : (List.range' 0 4) = [0,1,2,3]:=rfl
 simp only [Std.Legacy.Range.forIn_eq_forIn_range',Std.Legacy.Range.size,Nat.sub_zero,Nat.add_sub_cancel,Nat.div_one,e4,List.forIn_cons,List.forIn_nil,Sem.run_bind,p0,h,Result.andThen_ok]
 have hb : ∀ j,((((wd f j : Nat) : Int)) == ((wd g j : Nat) : Int)) = decide (wd f j = wd g j):=fun j => by
  rw [Bool.eq_iff_iff,beq_iff_eq,decide_eq_true_eq];omega
 simp only [hb]
 unfold sameS
 by_cases e0 : wd f 0 = wd g 0
 · by_cases e1 : wd f 1 = wd g 1
   · by_cases e2 : wd f 2 = wd g 2
     · by_cases e3 : wd f 3 = wd g 3
       · simp [e0,e1,e2,e3,p1,p2,p3,h,Sem.run_bind]
       · have e5 : ¬ ((wd f 3 : Nat) : Int) = ((wd g 3 : Nat) : Int):=by omega
         simp [e0,e1,e2,e3,e5,p1,p2,p3,h,Sem.run_bind]
     · simp [e0,e1,e2,p1,p2,h,hb,Sem.run_bind]
   · simp [e0,e1,p1,h,hb,Sem.run_bind]
 · simp [e0]
section
variable (w : World) (f g : Nat → Bool)
theorem run_equalIn_set : (Op.equalIn 10000 41 (setV f) (setV g)).run Tryz.prog w = .ok (sameS f g) w :=
 run_equalIn_set' 9999 (fun a b w => run_equalIn_int w 9998 _ .u64 .u64 a b Tryz.underlying39) w f g
theorem run_equalIn_lit : (Op.equalIn 10000 41 (.agg #[.int .u64 (wd f 0 : Nat),.int .u64 (wd f 1 : Nat),.int .u64 (wd f 2 : Nat),.int .u64 (wd f 3 : Nat)]) (.agg #[.int .u64 (wd g 0 : Nat),.int .u64 (wd g 1 : Nat),.int .u64 (wd g 2 : Nat),.int .u64 (wd g 3 : Nat)])).run Tryz.prog w = .ok (sameS f g) w :=
 run_equalIn_set w f g
end
end Go.Proofs.YtonjnagcdnmcpaaGreatDoor
