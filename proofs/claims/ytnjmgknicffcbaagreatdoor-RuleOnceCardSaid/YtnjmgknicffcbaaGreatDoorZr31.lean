/- strings.Split at one byte, strings.Join, strconv.FormatInt and ParseInt at base 10, by the shelf's contracts (proved once, over any program), at this program's numbers. Rules in memory: one, a slice of them, a row that the call owns. -/
import Derived.Test.YtnjmgknicffcbaaGreatDoorZr01
import Derived.Test.YtnjmgknicffcbaaGreatDoorZr30
import Derived.Shelf.LaysC
import Derived.Lib.AppendIntMem
import Derived.Lib.IndexBytes
import Derived.Shelf.Strings.SplitCore
import Derived.Shelf.Strings.Search3
import Derived.Shelf.Strings.Count
import Derived.Shelf.Strings.OnBuilder
import Derived.Shelf.Strconv.Itoa4
import Derived.Shelf.Strconv.ErrVarParseInt
import Derived.Test.YtnjmgknicffcbaaGreatDoorZr12
import Derived.Test.YtnjmgknicffcbaaGreatDoorZr07
import Derived.Lib.SmallJoins
namespace Go.Proofs.YtnjmgknicffcbaaGreatDoor
open Go.Shelf Go.RowKit Go.Lib
def lays221_ren : Go.Shelf.Ren := ⟨fun | 138 => 147 | 143 => 148 | 195 => 169 | 197 => 170 | 217 => 189 | 218 => 171 | 219 => 172 | 221 => 111 | 224 => 191 | 225 => 190 | 260 => 188 | 266 => 210 | 267 => 192 | 268 => 146 | 314 => 211 | n => n, fun | 0 => 0 | 3 => 3 | 4 => 4 | 5 => 5 | 9 => 9 | 21 => 21 | 31 => 93 | 46 => 202 | 51 => 215 | 105 => 206 | 119 => 239 | 138 => 241 | 139 => 242 | 146 => 243 | n => n, fun | 1 => 2 | 3 => 3 | 4 => 4 | n => n⟩
set_option maxRecDepth 100000 in
theorem lays221 : Go.Proofs.Lays.n221 Tryz.prog lays221_ren := {
  mixed := by kernel_rfl
  f138 := Tryz.func147.trans (congrArg some (by kernel_rfl))
  f143 := Tryz.func148.trans (congrArg some (by kernel_rfl))
  f195 := Tryz.func169.trans (congrArg some (by kernel_rfl))
  f197 := Tryz.func170.trans (congrArg some (by kernel_rfl))
  f217 := Tryz.func189.trans (congrArg some (by kernel_rfl))
  f218 := Tryz.func171.trans (congrArg some (by kernel_rfl))
  f219 := Tryz.func172.trans (congrArg some (by kernel_rfl))
  f221 := Tryz.func111.trans (congrArg some (by kernel_rfl))
  f224 := Tryz.func191.trans (congrArg some (by kernel_rfl))
  f225 := Tryz.func190.trans (congrArg some (by kernel_rfl))
  f260 := Tryz.func188.trans (congrArg some (by kernel_rfl))
  f266 := Tryz.func210.trans (congrArg some (by kernel_rfl))
  f267 := Tryz.func192.trans (congrArg some (by kernel_rfl))
  f268 := Tryz.func146.trans (congrArg some (by kernel_rfl))
  f314 := Tryz.func211.trans (congrArg some (by kernel_rfl))
  t0 := Tryz.underlying0
  a0 := Tryz.isAgg0
  z0 := Tryz.sizeOf0
  v0 := Tryz.zeroValue0
  t3 := Tryz.underlying3
  a3 := Tryz.isAgg3
  z3 := Tryz.sizeOf3
  v3 := Tryz.zeroValue3
  t4 := Tryz.underlying4
  a4 := Tryz.isAgg4
  z4 := Tryz.sizeOf4
  v4 := Tryz.zeroValue4
  t5 := Tryz.underlying5
  a5 := Tryz.isAgg5
  z5 := Tryz.sizeOf5
  v5 := Tryz.zeroValue5
  t9 := Tryz.underlying9
  a9 := Tryz.isAgg9
  z9 := Tryz.sizeOf9
  v9 := Tryz.zeroValue9
  t21 := Tryz.underlying21
  a21 := Tryz.isAgg21
  z21 := Tryz.sizeOf21
  v21 := Tryz.zeroValue21
  t31 := Tryz.underlying93
  a31 := Tryz.isAgg93
  z31 := Tryz.sizeOf93
  v31 := Tryz.zeroValue93
  t46 := Tryz.underlying202
  a46 := Tryz.isAgg202
  z46 := Tryz.sizeOf202
  v46 := Tryz.zeroValue202
  t51 := Tryz.underlying215
  a51 := Tryz.isAgg215
  z51 := Tryz.sizeOf215
  v51 := Tryz.zeroValue215
  t105 := Tryz.underlying206
  a105 := Tryz.isAgg206
  z105 := Tryz.sizeOf206
  v105 := Tryz.zeroValue206
  t119 := Tryz.underlying239
  a119 := Tryz.isAgg239
  z119 := Tryz.sizeOf239
  t138 := Tryz.underlying241
  a138 := Tryz.isAgg241
  z138 := Tryz.sizeOf241
  v138 := Tryz.zeroValue241
  t139 := Tryz.underlying242
  a139 := Tryz.isAgg242
  z139 := Tryz.sizeOf242
  v139 := Tryz.zeroValue242
  t146 := Tryz.underlying243
  a146 := Tryz.isAgg243
  z146 := Tryz.sizeOf243
  v146 := Tryz.zeroValue243
  g1 := by kernel_rfl
  g3 := by kernel_rfl
  g4 := by kernel_rfl }
def laysM173_ren : Go.Shelf.Ren := ⟨fun | 129 => 176 | 173 => 93 | 246 => 133 | 283 => 156 | 284 => 157 | 285 => 158 | 286 => 159 | 317 => 175 | 318 => 177 | 319 => 178 | 320 => 179 | 337 => 195 | 338 => 196 | n => n, fun | 0 => 0 | 2 => 2 | 3 => 3 | 4 => 4 | 5 => 5 | 9 => 9 | 20 => 20 | 37 => 81 | 46 => 202 | 51 => 215 | 53 => 26 | 171 => 192 | 173 => 195 | 212 => 214 | 213 => 216 | 232 => 251 | 233 => 252 | n => n, fun | 17 => 1 | 18 => 5 | 19 => 6 | n => n⟩
set_option maxRecDepth 100000 in
theorem laysM173 : Go.Proofs.LaysM.n173 Tryz.prog laysM173_ren := {
  mixed := by kernel_rfl
  f129 := Tryz.func176.trans (congrArg some (by kernel_rfl))
  f173 := Tryz.func93.trans (congrArg some (by kernel_rfl))
  f246 := Tryz.func133.trans (congrArg some (by kernel_rfl))
  f283 := Tryz.func156.trans (congrArg some (by kernel_rfl))
  f284 := Tryz.func157.trans (congrArg some (by kernel_rfl))
  f285 := Tryz.func158.trans (congrArg some (by kernel_rfl))
  f286 := Tryz.func159.trans (congrArg some (by kernel_rfl))
  f317 := Tryz.func175.trans (congrArg some (by kernel_rfl))
  f318 := Tryz.func177.trans (congrArg some (by kernel_rfl))
  f319 := Tryz.func178.trans (congrArg some (by kernel_rfl))
  f320 := Tryz.func179.trans (congrArg some (by kernel_rfl))
  f337 := Tryz.func195.trans (congrArg some (by kernel_rfl))
  f338 := Tryz.func196.trans (congrArg some (by kernel_rfl))
  t0 := Tryz.underlying0
  a0 := Tryz.isAgg0
  z0 := Tryz.sizeOf0
  v0 := Tryz.zeroValue0
  t2 := Tryz.underlying2
  a2 := Tryz.isAgg2
  z2 := Tryz.sizeOf2
  v2 := Tryz.zeroValue2
  t3 := Tryz.underlying3
  a3 := Tryz.isAgg3
  z3 := Tryz.sizeOf3
  v3 := Tryz.zeroValue3
  t4 := Tryz.underlying4
  a4 := Tryz.isAgg4
  z4 := Tryz.sizeOf4
  v4 := Tryz.zeroValue4
  t5 := Tryz.underlying5
  a5 := Tryz.isAgg5
  z5 := Tryz.sizeOf5
  v5 := Tryz.zeroValue5
  t9 := Tryz.underlying9
  a9 := Tryz.isAgg9
  z9 := Tryz.sizeOf9
  v9 := Tryz.zeroValue9
  t20 := Tryz.underlying20
  a20 := Tryz.isAgg20
  z20 := Tryz.sizeOf20
  v20 := Tryz.zeroValue20
  t37 := Tryz.underlying81
  a37 := Tryz.isAgg81
  z37 := Tryz.sizeOf81
  v37 := Tryz.zeroValue81
  t46 := Tryz.underlying202
  a46 := Tryz.isAgg202
  z46 := Tryz.sizeOf202
  v46 := Tryz.zeroValue202
  t51 := Tryz.underlying215
  a51 := Tryz.isAgg215
  z51 := Tryz.sizeOf215
  v51 := Tryz.zeroValue215
  t53 := Tryz.underlying26
  a53 := Tryz.isAgg26
  z53 := Tryz.sizeOf26
  v53 := Tryz.zeroValue26
  t171 := Tryz.underlying192
  a171 := Tryz.isAgg192
  z171 := Tryz.sizeOf192
  v171 := Tryz.zeroValue192
  t173 := Tryz.underlying195
  a173 := Tryz.isAgg195
  z173 := Tryz.sizeOf195
  v173 := Tryz.zeroValue195
  t212 := Tryz.underlying214
  a212 := Tryz.isAgg214
  z212 := Tryz.sizeOf214
  v212 := Tryz.zeroValue214
  t213 := Tryz.underlying216
  a213 := Tryz.isAgg216
  z213 := Tryz.sizeOf216
  t232 := Tryz.underlying251
  a232 := Tryz.isAgg251
  z232 := Tryz.sizeOf251
  v232 := Tryz.zeroValue251
  t233 := Tryz.underlying252
  a233 := Tryz.isAgg252
  z233 := Tryz.sizeOf252
  v233 := Tryz.zeroValue252
  g17 := by kernel_rfl
  g18 := by kernel_rfl
  g19 := by kernel_rfl
  i0 := by kernel_rfl
  i2 := by kernel_rfl
  i3 := by kernel_rfl
  i4 := by kernel_rfl
  i5 := by kernel_rfl
  i9 := by kernel_rfl
  i20 := by kernel_rfl
  i37 := by kernel_rfl
  i46 := by kernel_rfl
  i51 := by kernel_rfl
  i53 := by kernel_rfl
  i171 := by kernel_rfl
  i173 := by kernel_rfl
  i212 := by kernel_rfl
  i232 := by kernel_rfl
  i233 := by kernel_rfl
  m17 := by kernel_rfl
  m18 := by kernel_rfl
  m19 := by kernel_rfl }
def laysC174_ren : Go.Shelf.Ren := ⟨fun | 129 => 176 | 171 => 227 | 174 => 173 | 205 => 226 | 243 => 238 | 245 => 194 | 246 => 133 | 247 => 193 | 279 => 213 | 280 => 214 | 281 => 215 | 282 => 216 | 283 => 156 | 284 => 157 | 285 => 158 | 286 => 159 | 287 => 212 | 316 => 155 | 317 => 175 | 318 => 177 | 319 => 178 | 320 => 179 | 321 => 224 | 322 => 225 | 337 => 195 | 338 => 196 | n => n, fun | 0 => 0 | 2 => 2 | 3 => 3 | 4 => 4 | 5 => 5 | 9 => 9 | 20 => 20 | 21 => 21 | 37 => 81 | 46 => 202 | 51 => 215 | 53 => 26 | 75 => 105 | 80 => 111 | 85 => 209 | 127 => 152 | 143 => 269 | 145 => 271 | 167 => 245 | 168 => 248 | 171 => 192 | 173 => 195 | 175 => 246 | 210 => 259 | 212 => 214 | 213 => 216 | 232 => 251 | 233 => 252 | n => n, fun | 15 => 7 | 16 => 8 | 17 => 1 | 18 => 5 | 19 => 6 | n => n⟩
set_option maxRecDepth 100000 in
theorem laysC174 : Go.Proofs.LaysC.n174 Tryz.prog laysC174_ren := {
  mixed := by kernel_rfl
  f129 := Tryz.func176.trans (congrArg some (by kernel_rfl))
  f171 := Tryz.func227.trans (congrArg some (by kernel_rfl))
  f174 := Tryz.func173.trans (congrArg some (by kernel_rfl))
  f205 := Tryz.func226.trans (congrArg some (by kernel_rfl))
  f243 := Tryz.func238.trans (congrArg some (by kernel_rfl))
  f245 := Tryz.func194.trans (congrArg some (by kernel_rfl))
  f246 := Tryz.func133.trans (congrArg some (by kernel_rfl))
  f247 := Tryz.func193.trans (congrArg some (by kernel_rfl))
  f279 := Tryz.func213.trans (congrArg some (by kernel_rfl))
  f280 := Tryz.func214.trans (congrArg some (by kernel_rfl))
  f281 := Tryz.func215.trans (congrArg some (by kernel_rfl))
  f282 := Tryz.func216.trans (congrArg some (by kernel_rfl))
  f283 := Tryz.func156.trans (congrArg some (by kernel_rfl))
  f284 := Tryz.func157.trans (congrArg some (by kernel_rfl))
  f285 := Tryz.func158.trans (congrArg some (by kernel_rfl))
  f286 := Tryz.func159.trans (congrArg some (by kernel_rfl))
  f287 := Tryz.func212.trans (congrArg some (by kernel_rfl))
  f316 := Tryz.func155.trans (congrArg some (by kernel_rfl))
  f317 := Tryz.func175.trans (congrArg some (by kernel_rfl))
  f318 := Tryz.func177.trans (congrArg some (by kernel_rfl))
  f319 := Tryz.func178.trans (congrArg some (by kernel_rfl))
  f320 := Tryz.func179.trans (congrArg some (by kernel_rfl))
  f321 := Tryz.func224.trans (congrArg some (by kernel_rfl))
  f322 := Tryz.func225.trans (congrArg some (by kernel_rfl))
  f337 := Tryz.func195.trans (congrArg some (by kernel_rfl))
  f338 := Tryz.func196.trans (congrArg some (by kernel_rfl))
  t0 := Tryz.underlying0
  a0 := Tryz.isAgg0
  z0 := Tryz.sizeOf0
  v0 := Tryz.zeroValue0
  t2 := Tryz.underlying2
  a2 := Tryz.isAgg2
  z2 := Tryz.sizeOf2
  v2 := Tryz.zeroValue2
  t3 := Tryz.underlying3
  a3 := Tryz.isAgg3
  z3 := Tryz.sizeOf3
  v3 := Tryz.zeroValue3
  t4 := Tryz.underlying4
  a4 := Tryz.isAgg4
  z4 := Tryz.sizeOf4
  v4 := Tryz.zeroValue4
  t5 := Tryz.underlying5
  a5 := Tryz.isAgg5
  z5 := Tryz.sizeOf5
  v5 := Tryz.zeroValue5
  t9 := Tryz.underlying9
  a9 := Tryz.isAgg9
  z9 := Tryz.sizeOf9
  v9 := Tryz.zeroValue9
  t20 := Tryz.underlying20
  a20 := Tryz.isAgg20
  z20 := Tryz.sizeOf20
  v20 := Tryz.zeroValue20
  t21 := Tryz.underlying21
  a21 := Tryz.isAgg21
  z21 := Tryz.sizeOf21
  v21 := Tryz.zeroValue21
  t37 := Tryz.underlying81
  a37 := Tryz.isAgg81
  z37 := Tryz.sizeOf81
  v37 := Tryz.zeroValue81
  t46 := Tryz.underlying202
  a46 := Tryz.isAgg202
  z46 := Tryz.sizeOf202
  v46 := Tryz.zeroValue202
  t51 := Tryz.underlying215
  a51 := Tryz.isAgg215
  z51 := Tryz.sizeOf215
  v51 := Tryz.zeroValue215
  t53 := Tryz.underlying26
  a53 := Tryz.isAgg26
  z53 := Tryz.sizeOf26
  v53 := Tryz.zeroValue26
  t75 := Tryz.underlying105
  a75 := Tryz.isAgg105
  z75 := Tryz.sizeOf105
  v75 := Tryz.zeroValue105
  t85 := Tryz.underlying209
  a85 := Tryz.isAgg209
  z85 := Tryz.sizeOf209
  v85 := Tryz.zeroValue209
  t127 := Tryz.underlying152
  a127 := Tryz.isAgg152
  z127 := Tryz.sizeOf152
  v127 := Tryz.zeroValue152
  t143 := Tryz.underlying269
  a143 := Tryz.isAgg269
  z143 := Tryz.sizeOf269
  v143 := Tryz.zeroValue269
  t145 := Tryz.underlying271
  a145 := Tryz.isAgg271
  z145 := Tryz.sizeOf271
  v145 := Tryz.zeroValue271
  t167 := Tryz.underlying245
  a167 := Tryz.isAgg245
  z167 := Tryz.sizeOf245
  v167 := Tryz.zeroValue245
  t168 := Tryz.underlying248
  a168 := Tryz.isAgg248
  z168 := Tryz.sizeOf248
  v168 := Tryz.zeroValue248
  t171 := Tryz.underlying192
  a171 := Tryz.isAgg192
  z171 := Tryz.sizeOf192
  v171 := Tryz.zeroValue192
  t173 := Tryz.underlying195
  a173 := Tryz.isAgg195
  z173 := Tryz.sizeOf195
  v173 := Tryz.zeroValue195
  t175 := Tryz.underlying246
  a175 := Tryz.isAgg246
  z175 := Tryz.sizeOf246
  v175 := Tryz.zeroValue246
  t210 := Tryz.underlying259
  a210 := Tryz.isAgg259
  z210 := Tryz.sizeOf259
  v210 := Tryz.zeroValue259
  t212 := Tryz.underlying214
  a212 := Tryz.isAgg214
  z212 := Tryz.sizeOf214
  v212 := Tryz.zeroValue214
  t213 := Tryz.underlying216
  a213 := Tryz.isAgg216
  z213 := Tryz.sizeOf216
  t232 := Tryz.underlying251
  a232 := Tryz.isAgg251
  z232 := Tryz.sizeOf251
  v232 := Tryz.zeroValue251
  t233 := Tryz.underlying252
  a233 := Tryz.isAgg252
  z233 := Tryz.sizeOf252
  v233 := Tryz.zeroValue252
  g15 := by kernel_rfl
  g16 := by kernel_rfl
  g17 := by kernel_rfl
  g18 := by kernel_rfl
  g19 := by kernel_rfl
  t80 := Tryz.underlying111
  a80 := Tryz.isAgg111
  z80 := Tryz.sizeOf111
  v80 := Tryz.zeroValue111
  i0 := by kernel_rfl
  i2 := by kernel_rfl
  i3 := by kernel_rfl
  i4 := by kernel_rfl
  i5 := by kernel_rfl
  i9 := by kernel_rfl
  i20 := by kernel_rfl
  i21 := by kernel_rfl
  i37 := by kernel_rfl
  i46 := by kernel_rfl
  i51 := by kernel_rfl
  i53 := by kernel_rfl
  i75 := by kernel_rfl
  i80 := by kernel_rfl
  i85 := by kernel_rfl
  i127 := by kernel_rfl
  i143 := by kernel_rfl
  i145 := by kernel_rfl
  i167 := by kernel_rfl
  i168 := by kernel_rfl
  i171 := by kernel_rfl
  i173 := by kernel_rfl
  i175 := by kernel_rfl
  i210 := by kernel_rfl
  i212 := by kernel_rfl
  i232 := by kernel_rfl
  i233 := by kernel_rfl
  m15 := by kernel_rfl
  m16 := by kernel_rfl
  m17 := by kernel_rfl
  m18 := by kernel_rfl
  m19 := by kernel_rfl
  c0 := by kernel_rfl
  c2 := by kernel_rfl
  c3 := by kernel_rfl
  c4 := by kernel_rfl
  c5 := by kernel_rfl
  c9 := by kernel_rfl
  c20 := by kernel_rfl
  c21 := by kernel_rfl
  c37 := by kernel_rfl
  c46 := by kernel_rfl
  c51 := by kernel_rfl
  c53 := by kernel_rfl
  c75 := by kernel_rfl
  c80 := by kernel_rfl
  c85 := by kernel_rfl
  c127 := by kernel_rfl
  c143 := by kernel_rfl
  c145 := by kernel_rfl
  c167 := by kernel_rfl
  c168 := by kernel_rfl
  c171 := by kernel_rfl
  c173 := by kernel_rfl
  c175 := by kernel_rfl
  c210 := by kernel_rfl
  c212 := by kernel_rfl
  c213 := by kernel_rfl
  c232 := by kernel_rfl
  c233 := by kernel_rfl }
theorem info_str : (Tryz.prog.info? 9).map (fun i => (i.zero, i.size, i.bytes)) = some (some (.string ByteArray.empty), 1, 16) := by kernel_rfl
/-- strings.Split at one byte. -/
theorem split1_any (c : UInt8) (s : ByteArray) (hs : s.size < 4294967281) (w : World) :
    Calls Tryz.prog 63 #[.string s, .string ⟨#[c]⟩] w fun e w' =>
      e = .returned (.slice (some ⟨w.heap.size, 0, none⟩) (PV.pieces c s).length (PV.pieces c s).length) ∧ w' = w.alloc (.cells ((PV.pieces c s).map Value.string).toArray 9) := by
  have h1 : 1 ≤ (⟨#[c]⟩ : ByteArray).size := Nat.le_refl _
  have hle := Lib.countB_le ⟨#[c]⟩ h1 s.size s (Nat.le_refl _)
  have hlen : (PV.pieces c s).length = Lib.countB s ⟨#[c]⟩ + 1 := PV.pieces_len c s
  have q := Any.strings_genSplit_core lays221 info_str s ⟨#[c]⟩ 0 (-1) (Lib.countB s ⟨#[c]⟩ + 1) w hs h1 (Nat.zero_le _)
    (fun x cs _ => (Any.strings_Index_one { lays221 with } x c _).mono fun e w' h => ⟨by rw [h.1, ← Lib.index_one], h.2⟩)
    ((Any.strings_Count_one { lays221 with } s c w).mono fun e w' h => ⟨by rw [h.1]; show _ = Ending.returned (Value.int .i64 ((Lib.count s.data.toList [c] : Nat) : Int)); rw [Lib.count_one]; rfl, h.2⟩) (by decide) (by decide) (by rw [if_pos (by decide)]; omega)
  rw [Nat.add_sub_cancel, show Lib.splitB ⟨#[c]⟩ 0 (Lib.countB s ⟨#[c]⟩) s = PV.pieces c s from rfl, ← hlen, Lib.cellsOf_full] at q
  obtain ⟨n, hn⟩ : ∃ n, n = (PV.pieces c s).length := ⟨_, rfl⟩
  obtain ⟨cs, hcs⟩ : ∃ cs, cs = ((PV.pieces c s).map Value.string).toArray := ⟨_, rfl⟩
  have q : Calls Tryz.prog 111 #[.string s, .string ⟨#[c]⟩, .int .i64 0, .int .i64 (-1)] w fun e w' => e = .returned (.slice (some ⟨w.heap.size, 0, none⟩) (PV.pieces c s).length (PV.pieces c s).length) ∧ w' = w.alloc (.cells ((PV.pieces c s).map Value.string).toArray 9) := q
  rw [← hn, ← hcs] at q ⊢
  have Q := Lib.hid q
  clear q hlen hle hn hcs
  go_enter Tryz.func63, Tryz.ntmps63
  go_wp2_with fail
  refine Q.out.mono ?_
  rintro e w1 ⟨rfl, rfl⟩
  go_wp2_with fail
  go_ret
  exact ⟨rfl, rfl⟩
/-- strconv.FormatInt at base 10. -/
theorem formatInt_any (n : Int) (h0 : -9223372036854775808 ≤ n) (h1 : n ≤ 9223372036854775807) (w : World) (htab : Lib.TabIs Tryz.prog w "internal/strconv.uint64pow10" .u64 Lib.pow10Tab) :
    Calls Tryz.prog 93 #[.int .i64 n, .int .i64 10] w fun e w' => e = .returned (.string ⟨(Lib.itoa n).toArray⟩) ∧ Gr w w' :=
  (Any.strconv_FormatInt_10 laysM173 n h0 h1 w htab).mono fun e w' h => by
    obtain ⟨he, k, os, rfl⟩ := h
    exact ⟨he, Lib.below_grow _ w (Nat.le_refl _) k os⟩
/-- strconv.ParseInt at base 10 and 64 bits. -/
theorem parseInt_ok (s : ByteArray) (hs : s.size ≤ 281474976710656) (v : Int) (h : Lib.parseIntB 64 s.data.toList = .ok v) (w : World) :
    Calls Tryz.prog 173 #[.string s, .int .i64 10, .int .i64 64] w fun e w' => e = .returned (.tuple #[.int .i64 v, .nilIface]) ∧ Gr w w' :=
  (Any.strconv_ParseInt_10_at64_ok laysC174 s (by omega) v h w).mono fun e w' q => by
    obtain ⟨he, hw⟩ := q
    refine ⟨he, ?_⟩
    rcases hw with rfl | ⟨t, rfl⟩
    · exact Below.refl _ _
    · exact Lib.bytesWorld_below _ _ _
/-- The two errors' variables hold errors. -/
def Sents2 (w : World) : Prop := (∃ tp p, w.var? Tryz.prog "strconv.ErrSyntax" = some #[.iface tp p]) ∧ (∃ tp p, w.var? Tryz.prog "strconv.ErrRange" = some #[.iface tp p])
theorem parseInt_bad (s : ByteArray) (hs : s.size ≤ 281474976710656) (h : ∀ v, Lib.parseIntB 64 s.data.toList ≠ .ok v) (w : World) (hS : Sents2 w) :
    Calls Tryz.prog 173 #[.string s, .int .i64 10, .int .i64 64] w fun e w' => ∃ (n : Int) (N : Nat), e = .returned (.tuple #[.int .i64 n, .iface 248 (.pointer (some ⟨N, 0, none⟩))]) ∧ Gr w w' := by
  rcases hp : Lib.parseIntB 64 s.data.toList with v | _ | _
  · exact absurd hp (h v)
  · obtain ⟨⟨tp, p, hv⟩, _⟩ := hS
    refine (Any.strconv_ParseInt_10_at64_syntax_var laysC174 s hs hp tp p w hv).mono ?_
    rintro e w' ⟨N, he, _, _, hb⟩
    exact ⟨0, N, he, hb⟩
  · obtain ⟨_, ⟨tp, p, hv⟩⟩ := hS
    refine (Any.strconv_ParseInt_10_at64_range_var laysC174 s hs hp tp p w hv).mono ?_
    rintro e w' ⟨N, he, _, _, hb⟩
    exact ⟨_, N, he, hb⟩
end Go.Proofs.YtnjmgknicffcbaaGreatDoor
namespace Go.Proofs.YtnjmgknicffcbaaGreatDoor
open Go.RowKit Go.Joins
set_option linter.unusedSimpArgs false
set_option linter.unusedVariables false

theorem heap_allocR (w : World) (c : Array Value) (t : TypeId) : (w.alloc (.cells c t)).heap[w.heap.size]? = some (.cells c t (0, 0)) := by simp only [World.alloc, Array.getElem?_push]; simp
structure RU where
  k : Int
  key : ByteArray
  other : ByteArray
  min : Int
  start : Int
abbrev ruv (r : RU) : Array Value := #[.int .i64 r.k, .string r.key, .string r.other, .int .i64 r.min, .int .i64 r.start]
/-- A rule lies in these five cells. -/
def RCell (w : World) (b off : Nat) (r : RU) : Prop := w.cell? ⟨b, off, none⟩ = some (.int .i64 r.k) ∧ w.cell? ⟨b, off + 1, none⟩ = some (.string r.key) ∧ w.cell? ⟨b, off + 2, none⟩ = some (.string r.other) ∧ w.cell? ⟨b, off + 3, none⟩ = some (.int .i64 r.min) ∧ w.cell? ⟨b, off + 4, none⟩ = some (.int .i64 r.start)
theorem RCell.gr {w w' : World} {b off : Nat} {r : RU} (h : RCell w b off r) (g : Gr w w') : RCell w' b off r := ⟨g.cell h.1, g.cell h.2.1, g.cell h.2.2.1, g.cell h.2.2.2.1, g.cell h.2.2.2.2⟩
/-- A slice of rules. -/
def UV (w : World) (v : Value) (L : List RU) : Prop :=
  ∃ A c, v = .slice A L.length c ∧ L.length ≤ c ∧ (c ≤ maxLen ∧ (A = Option.none → c = 0)) ∧ ∀ j (hj : j < L.length), ∃ b off, A = some ⟨b, off, none⟩ ∧ RCell w b (off + j * 5) L[j]
theorem UV.gr {w w' : World} {v : Value} {L : List RU} (h : UV w v L) (g : Gr w w') : UV w' v L := by
  obtain ⟨A, c, hv, h1, h2, h3⟩ := h
  refine ⟨A, c, hv, h1, h2, fun j hj => ?_⟩
  obtain ⟨b, off, ha, hc⟩ := h3 j hj
  exact ⟨b, off, ha, hc.gr g⟩
theorem rubox (w : World) (r : RU) : ∃ W, W = w.alloc (.cells (ruv r) 49) ∧ Gr w W ∧ RCell W w.heap.size 0 r := by
  refine ⟨_, rfl, (Gr.refl w).alloc _, ?_⟩
  have h := heap_allocR w (ruv r) 49
  exact ⟨by rw [cell_of_block h]; rfl, by rw [cell_of_block h]; rfl, by rw [cell_of_block h]; rfl, by rw [cell_of_block h]; rfl, by rw [cell_of_block h]; rfl⟩
def ucell (r : RU) : List Value := [.int .i64 r.k, .string r.key, .string r.other, .int .i64 r.min, .int .i64 r.start]
theorem ucell_len (r : RU) : (ucell r).length = 5 := rfl
def ucells (L : List RU) : List Value := L.flatMap ucell
theorem ucells_len (L : List RU) : (ucells L).length = L.length * 5 := rows_len ucell 5 ucell_len L
theorem ucells_one (L : List RU) : ∀ u ∈ ucells L, u.oneCell' = true := by
  intro u hu
  obtain ⟨f, _, hf⟩ := List.mem_flatMap.1 hu
  unfold ucell at hf
  simp only [List.mem_cons, List.not_mem_nil, or_false] at hf
  rcases hf with rfl | rfl | rfl | rfl | rfl <;> rfl
theorem uv_form {w : World} {v : Value} {L : List RU} (h : UV w v L) : ∃ A c, v = .slice A L.length c := by
  obtain ⟨A, c, hv, _⟩ := h
  exact ⟨A, c, hv⟩
theorem UV.sl {w : World} {v : Value} {L : List RU} (h : UV w v L) : SL w 5 v L.length (ucells L) := by
  obtain ⟨A, c, hv, h1, h2, h3⟩ := h
  refine ⟨A, c, hv, h1, h2, ucells_len L, fun j u hj => ?_⟩
  obtain ⟨q, r, hq, hr, rfl, hu⟩ := rows_of ucell 5 ucell_len (by decide) L j u hj
  obtain ⟨b, off, ha, c0, c1, c2, c3, c4⟩ := h3 q hq
  refine ⟨b, off, ha, ?_⟩
  rw [← Nat.add_assoc]
  match r, hr with
  | 0, _ => injection hu with hu; rw [← hu]; exact c0
  | 1, _ => injection hu with hu; rw [← hu]; exact c1
  | 2, _ => injection hu with hu; rw [← hu]; exact c2
  | 3, _ => injection hu with hu; rw [← hu]; exact c3
  | 4, _ => injection hu with hu; rw [← hu]; exact c4
theorem UV.of_sl {w : World} {v : Value} {L : List RU} {n : Nat} (h : SL w 5 v n (ucells L)) : UV w v L := by
  obtain ⟨A, c, hv, h1, ⟨h2, h2'⟩, h3, h4⟩ := h
  have hn : L.length = n := by
    rw [ucells_len] at h3
    omega
  subst hn
  refine ⟨A, c, hv, h1, ⟨h2, h2'⟩, fun j hj => ?_⟩
  have at_ : ∀ r, r < 5 → (ucells L)[j * 5 + r]? = (ucell L[j])[r]? := fun r hr => rows_at ucell 5 ucell_len L j r hj hr
  obtain ⟨b, off, ha, c0⟩ := h4 (j * 5 + 0) _ (at_ 0 (by decide))
  have more : ∀ r u, (ucells L)[j * 5 + r]? = some u → w.cell? ⟨b, off + j * 5 + r, none⟩ = some u := fun r u hu => by
    obtain ⟨b', off', ha', c1⟩ := h4 (j * 5 + r) u hu
    rw [ha] at ha'
    injection ha' with ha'
    injection ha' with e1 e2
    subst e1 e2
    rw [Nat.add_assoc]
    exact c1
  exact ⟨b, off, ha, c0, more 1 _ (at_ 1 (by decide)), more 2 _ (at_ 2 (by decide)), more 3 _ (at_ 3 (by decide)), more 4 _ (at_ 4 (by decide))⟩
/-- The call owns this row of rules. -/
def UO (w : World) (B : Nat) (v : Value) (L : List RU) : Prop := w.ownsRow B 49 5 v L.length (ucells L)
theorem UO.gr {w w' : World} {B : Nat} {v : Value} {L : List RU} (h : UO w B v L) (g : Gr w w') : UO w' B v L := own_gr h g
theorem UO.le {w : World} {B B' : Nat} {v : Value} {L : List RU} (h : UO w B v L) (hb : B' ≤ B) : UO w B' v L := own_le h hb
theorem UO.nil (w : World) (B : Nat) : UO w B (.slice none 0 0) [] := World.ownsRow_nil w B _ _
theorem UO.uv {w : World} {B : Nat} {v : Value} {L : List RU} (h : UO w B v L) : UV w v L := UV.of_sl (own_sl h)
theorem infoRule : (Tryz.prog.info? 49).map (fun i => (i.zero, i.size, i.bytes)) = some (some (.agg #[.int .i64 0, .string ⟨#[]⟩, .string ⟨#[]⟩, .int .i64 0, .int .i64 0]), 5, 56) := by kernel_rfl
theorem wpList_push_u {W w0 : World} {ops : Array Oper} {rest : List Oper} {o : Oper} {a : Act} {Q : Exit → Act → World → Prop} (hw : Region.wanted o (yielded ops a.tmps) = true) (s x : Operand)
    (ho : o.op = .call { callee := .builtin .append, args := #[s, x], argTypes := #[22, 22] })
    (v vx : Value) (L M : List RU) (n m : Nat) (hn : n = L.length) (hm : m = M.length) (hs : a.eval s = v) (hown : UO W w0.heap.size v L) (hx : a.eval x = vx) (hxv : UV W vx M) (hlen : (n + m) * 56 ≤ 140737488355328) (hg : Gr w0 W)
    (h : ∀ A' c' w', UO w' w0.heap.size (.slice A' (n + m) c') (L ++ M) → Gr w0 w' → W.grownBy w' v.ownBlock → wpList Tryz.prog ops Q rest (a.put o.dst (.slice A' (n + m) c')) w') :
    wpList Tryz.prog ops Q (o :: rest) a W := by
  subst hn hm
  obtain ⟨i0, hi, hz0, hz1, hz2⟩ := info_parts infoRule
  have hsz := hg.size
  refine Go.BigFrame.wpList_want hw (fun K hK => ?_)
  refine wp_append_sl W s x 22 ho w0.heap.size 49 i0 _ 5 56 Tryz.underlying22 hi hz0 hz1 hz2 rfl (by decide) v L.length (ucells L) hs hown vx M.length (ucells M) hx
    hxv.sl (ucells_one M) (by unfold maxLen; omega) hlen hsz (L.length + M.length) rfl ?_
  intro A' c' w' hown' hgr _
  refine hK _ _ (h A' c' w' ?_ (gr_of_grown hg hown hgr hsz) hgr)
  unfold UO
  rw [List.length_append]
  unfold ucells at hown' ⊢
  rw [List.flatMap_append]
  exact hown'
theorem uv_one (w : World) (r : RU) (b : Nat) (hb : b = w.heap.size) : UV (w.alloc (.cells (ruv r) 49)) (.slice (some ⟨b, 0, none⟩) 1 1) [r] := by
  subst hb
  refine ⟨_, 1, rfl, Nat.le_refl _, ⟨by decide, fun h => by cases h⟩, fun j hj => ⟨w.heap.size, 0, rfl, ?_⟩⟩
  have hj0 : j = 0 := by simpa using hj
  subst hj0
  refine ⟨?_, ?_, ?_, ?_, ?_⟩ <;> (rw [World.cell?_alloc_mark]; rfl)

end Go.Proofs.YtnjmgknicffcbaaGreatDoor
