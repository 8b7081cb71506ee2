/- What is cut off: the rest of a text behind a pointer; an address' parts. What the library answers, at this seat: numbers. Laid by the shelf's tool in plain words. -/
import Derived.Test.YthnogdodlhkldaaGreatDoorWalkX
import Derived.Shelf.Strings.Builder1
import Derived.Shelf.Strings.Builder2
import Derived.Shelf.Strings.OnBuilder
import Derived.Shelf.Strings.Trim
import Derived.Shelf.Small.Utf8
import Derived.Shelf.Small.Strs
import Derived.Shelf.Small.Wraps
import Derived.Shelf.Strings.BuilderF
import Derived.Shelf.Strings.BuilderK
import Derived.Shelf.Utf8.RuneCount
import Derived.Shelf.Strconv.Itoa0
import Derived.Shelf.Strconv.Itoa1
import Derived.Shelf.LaysM
import Derived.Shelf.Strconv.Itoa2
import Derived.Shelf.Strconv.Itoa3
import Derived.Shelf.Strconv.Clone
import Derived.Shelf.Strconv.SyntaxError
import Derived.Shelf.LaysC
import Derived.Shelf.Strconv.ToError
import Derived.Shelf.Strconv.Lower
import Derived.Shelf.Strconv.ParseUint10Empty
import Derived.Shelf.Strconv.ParseUintEmpty
import Derived.Shelf.Pu.ParseUintPublic10
import Derived.Shelf.Strings.Search1
import Derived.Shelf.Strings.Search2
import Derived.Shelf.Strings.Search3
import Derived.Shelf.Strings.Cut
import Derived.Shelf.Strings.Count
import Derived.Shelf.Strings.Shaped
import Derived.Shelf.Strings.Prefix
import Derived.Shelf.Strings.Split
import Derived.Shelf.Strings.SplitShaped
import Derived.Shelf.Unicode.Decode
import Derived.Shelf.Strings.Runes
import Derived.Shelf.Strings.RuneCount
import Derived.Shelf.Strings.IndexAny
import Derived.Shelf.Strings.AsciiSet
import Derived.Shelf.Strings.IndexAnyAll
import Derived.Shelf.Strings.Explode
import Derived.Shelf.Strings.Repeat
import Derived.Shelf.Unicode.DecodeSlow
import Derived.Shelf.Unicode.DecodeAny
import Derived.Shelf.Unicode.DecodeLast
import Derived.Shelf.Strings.FieldsFuncAny
namespace Go.Proofs.YthnogdodlhkldaaGreatDoor
open Go.RowKit
theorem iA (L U:ByteArray)(k:Nat)(hk:k<=L.size)(h:U.data.toList=L.data.toList.take k):∀ W,(Instr.slice 9 (.string L) none (some (.int .i64 (k:Int))) none).run Tryz.prog W=.ok (.string U) W:=fun W=>by
 have e:L.extract 0 k=U:=xP L U 0 k (by omega) hk (by simpa using h);have hz:¬ L.size<k:=by omega
 simp[Instr.slice,go_sem,e,hz]
theorem fD (L R:ByteArray)(k:Nat)(hk:k<=L.size)(h:R.data.toList=L.data.toList.drop k):∀ W,(Instr.slice 9 (.string L) (some (.int .i64 (k:Int))) none none).run Tryz.prog W=.ok (.string R) W:=fun W=>by
 have e:L.extract k L.size=R:=xP L R k L.size hk (zL _) (by rw[h,List.take_of_length_le];rw[List.length_drop,aE];exact zL _);have hz:¬ L.size<k:=by omega
 simp[Instr.slice,go_sem,e,hz]
theorem nO {U T:ByteArray}(h:T.data.toList=bB U.data.toList):T.size=U.size:=by rw[<- aE,h,dS,aE]
def CL (w:World)(P:Nat)(x:ByteArray):Prop:=w.cell? ⟨P,0,none⟩=some (.string x)/\w.frozen? ⟨P,0,none⟩=false
end Go.Proofs.YthnogdodlhkldaaGreatDoor
namespace Go.Proofs
open Go.Shelf
def Tryz.laysM171_ren:Go.Shelf.Ren:=⟨fun | 171=>91 | 243=>122 | 246=>170 | 283=>216 | 284=>217 | 285=>218 | 286=>219 | 129=>253 | 317=>252 | 318=>254 | 319=>255 | 320=>256 | 337=>267 | 338=>268 | n=>n,fun | 3=>3 | 9=>9 | 2=>2 | 4=>4 | 171=>205 | 0=>0 | 53=>121 | 37=>85 | 5=>5 | 173=>208 | 212=>219 | 51=>142 | 20=>20 | 213=>220 | 46=>109 | 232=>236 | 233=>237 | n=>n,fun | 17=>2 | 18=>5 | 19=>6 | n=>n⟩
theorem Tryz.laysM171:Go.Proofs.LaysM.n171 Tryz.prog Tryz.laysM171_ren:={
 mixed:=by kernel_rfl
 f129:=Tryz.func253.trans (congrArg some (by kernel_rfl))
 f171:=Tryz.func91.trans (congrArg some (by kernel_rfl))
 f243:=Tryz.func122.trans (congrArg some (by kernel_rfl))
 f246:=Tryz.func170.trans (congrArg some (by kernel_rfl))
 f283:=Tryz.func216.trans (congrArg some (by kernel_rfl))
 f284:=Tryz.func217.trans (congrArg some (by kernel_rfl))
 f285:=Tryz.func218.trans (congrArg some (by kernel_rfl))
 f286:=Tryz.func219.trans (congrArg some (by kernel_rfl))
 f317:=Tryz.func252.trans (congrArg some (by kernel_rfl))
 f318:=Tryz.func254.trans (congrArg some (by kernel_rfl))
 f319:=Tryz.func255.trans (congrArg some (by kernel_rfl))
 f320:=Tryz.func256.trans (congrArg some (by kernel_rfl))
 f337:=Tryz.func267.trans (congrArg some (by kernel_rfl))
 f338:=Tryz.func268.trans (congrArg some (by kernel_rfl))
 t0:=Tryz.underlying0
 a0:=Tryz.isAgg0
 z0:=Tryz.sizeOf0
 v0:=Tryz.zeroValue0
 t2:=Tryz.underlying2
 a2:=Tryz.isAgg2
 z2:=Tryz.sizeOf2
 v2:=Tryz.zeroValue2
 t3:=Tryz.underlying3
 a3:=Tryz.isAgg3
 z3:=Tryz.sizeOf3
 v3:=Tryz.zeroValue3
 t4:=Tryz.underlying4
 a4:=Tryz.isAgg4
 z4:=Tryz.sizeOf4
 v4:=Tryz.zeroValue4
 t5:=Tryz.underlying5
 a5:=Tryz.isAgg5
 z5:=Tryz.sizeOf5
 v5:=Tryz.zeroValue5
 t9:=Tryz.underlying9
 a9:=Tryz.isAgg9
 z9:=Tryz.sizeOf9
 v9:=Tryz.zeroValue9
 t20:=Tryz.underlying20
 a20:=Tryz.isAgg20
 z20:=Tryz.sizeOf20
 v20:=Tryz.zeroValue20
 t37:=Tryz.underlying85
 a37:=Tryz.isAgg85
 z37:=Tryz.sizeOf85
 v37:=Tryz.zeroValue85
 t46:=Tryz.underlying109
 a46:=Tryz.isAgg109
 z46:=Tryz.sizeOf109
 v46:=Tryz.zeroValue109
 t51:=Tryz.underlying142
 a51:=Tryz.isAgg142
 z51:=Tryz.sizeOf142
 v51:=Tryz.zeroValue142
 t53:=Tryz.underlying121
 a53:=Tryz.isAgg121
 z53:=Tryz.sizeOf121
 v53:=Tryz.zeroValue121
 t171:=Tryz.underlying205
 a171:=Tryz.isAgg205
 z171:=Tryz.sizeOf205
 v171:=Tryz.zeroValue205
 t173:=Tryz.underlying208
 a173:=Tryz.isAgg208
 z173:=Tryz.sizeOf208
 v173:=Tryz.zeroValue208
 t212:=Tryz.underlying219
 a212:=Tryz.isAgg219
 z212:=Tryz.sizeOf219
 v212:=Tryz.zeroValue219
 t213:=Tryz.underlying220
 a213:=Tryz.isAgg220
 z213:=Tryz.sizeOf220
 t232:=Tryz.underlying236
 a232:=Tryz.isAgg236
 z232:=Tryz.sizeOf236
 v232:=Tryz.zeroValue236
 t233:=Tryz.underlying237
 a233:=Tryz.isAgg237
 z233:=Tryz.sizeOf237
 v233:=Tryz.zeroValue237
 g17:=by kernel_rfl
 g18:=by kernel_rfl
 g19:=by kernel_rfl
 i0:=by kernel_rfl
 i2:=by kernel_rfl
 i3:=by kernel_rfl
 i4:=by kernel_rfl
 i5:=by kernel_rfl
 i9:=by kernel_rfl
 i20:=by kernel_rfl
 i37:=by kernel_rfl
 i46:=by kernel_rfl
 i51:=by kernel_rfl
 i53:=by kernel_rfl
 i171:=by kernel_rfl
 i173:=by kernel_rfl
 i212:=by kernel_rfl
 i232:=by kernel_rfl
 i233:=by kernel_rfl
 m17:=by kernel_rfl
 m18:=by kernel_rfl
 m19:=by kernel_rfl }
def Tryz.laysPu14_ren:Go.Shelf.Ren:=⟨fun | 14=>226 | 16=>262 | 17=>263 | 19=>270 | 20=>271 | 21=>272 | 22=>273 | 23=>274 | 24=>275 | 25=>277 | 27=>91 | 26=>278 | 28=>122 | 29=>170 | 30=>216 | 31=>217 | 32=>218 | 33=>219 | 35=>253 | 34=>252 | 36=>254 | 37=>255 | 38=>256 | 39=>267 | 40=>268 | n=>n,fun | 9=>9 | 3=>3 | 22=>121 | 24=>117 | 25=>211 | 4=>4 | 34=>231 | 5=>5 | 36=>109 | 37=>85 | 0=>0 | 39=>233 | 21=>21 | 44=>239 | 47=>147 | 50=>243 | 48=>241 | 2=>2 | 52=>205 | 55=>208 | 59=>219 | 60=>142 | 20=>20 | 61=>220 | 65=>236 | 66=>237 | 67=>93 | n=>n,fun | 0=>7 | 1=>8 | 2=>2 | 3=>5 | 4=>6 | n=>n⟩
theorem Tryz.laysPu14:Go.Proofs.LaysPu.n14 Tryz.prog Tryz.laysPu14_ren:={
 mixed:=by kernel_rfl
 f14:=Tryz.func226.trans (congrArg some (by kernel_rfl))
 f16:=Tryz.func262.trans (congrArg some (by kernel_rfl))
 f17:=Tryz.func263.trans (congrArg some (by kernel_rfl))
 f19:=Tryz.func270.trans (congrArg some (by kernel_rfl))
 f20:=Tryz.func271.trans (congrArg some (by kernel_rfl))
 f21:=Tryz.func272.trans (congrArg some (by kernel_rfl))
 f22:=Tryz.func273.trans (congrArg some (by kernel_rfl))
 f23:=Tryz.func274.trans (congrArg some (by kernel_rfl))
 f24:=Tryz.func275.trans (congrArg some (by kernel_rfl))
 f25:=Tryz.func277.trans (congrArg some (by kernel_rfl))
 f26:=Tryz.func278.trans (congrArg some (by kernel_rfl))
 f27:=Tryz.func91.trans (congrArg some (by kernel_rfl))
 f28:=Tryz.func122.trans (congrArg some (by kernel_rfl))
 f29:=Tryz.func170.trans (congrArg some (by kernel_rfl))
 f30:=Tryz.func216.trans (congrArg some (by kernel_rfl))
 f31:=Tryz.func217.trans (congrArg some (by kernel_rfl))
 f32:=Tryz.func218.trans (congrArg some (by kernel_rfl))
 f33:=Tryz.func219.trans (congrArg some (by kernel_rfl))
 f34:=Tryz.func252.trans (congrArg some (by kernel_rfl))
 f35:=Tryz.func253.trans (congrArg some (by kernel_rfl))
 f36:=Tryz.func254.trans (congrArg some (by kernel_rfl))
 f37:=Tryz.func255.trans (congrArg some (by kernel_rfl))
 f38:=Tryz.func256.trans (congrArg some (by kernel_rfl))
 f39:=Tryz.func267.trans (congrArg some (by kernel_rfl))
 f40:=Tryz.func268.trans (congrArg some (by kernel_rfl))
 t0:=Tryz.underlying0
 a0:=Tryz.isAgg0
 z0:=Tryz.sizeOf0
 v0:=Tryz.zeroValue0
 i0:=by kernel_rfl
 t2:=Tryz.underlying2
 a2:=Tryz.isAgg2
 z2:=Tryz.sizeOf2
 v2:=Tryz.zeroValue2
 i2:=by kernel_rfl
 t3:=Tryz.underlying3
 a3:=Tryz.isAgg3
 z3:=Tryz.sizeOf3
 v3:=Tryz.zeroValue3
 i3:=by kernel_rfl
 t4:=Tryz.underlying4
 a4:=Tryz.isAgg4
 z4:=Tryz.sizeOf4
 v4:=Tryz.zeroValue4
 i4:=by kernel_rfl
 t5:=Tryz.underlying5
 a5:=Tryz.isAgg5
 z5:=Tryz.sizeOf5
 v5:=Tryz.zeroValue5
 i5:=by kernel_rfl
 t9:=Tryz.underlying9
 a9:=Tryz.isAgg9
 z9:=Tryz.sizeOf9
 v9:=Tryz.zeroValue9
 i9:=by kernel_rfl
 t20:=Tryz.underlying20
 a20:=Tryz.isAgg20
 z20:=Tryz.sizeOf20
 v20:=Tryz.zeroValue20
 i20:=by kernel_rfl
 t21:=Tryz.underlying21
 a21:=Tryz.isAgg21
 z21:=Tryz.sizeOf21
 v21:=Tryz.zeroValue21
 i21:=by kernel_rfl
 t22:=Tryz.underlying121
 a22:=Tryz.isAgg121
 z22:=Tryz.sizeOf121
 v22:=Tryz.zeroValue121
 i22:=by kernel_rfl
 t24:=Tryz.underlying117
 a24:=Tryz.isAgg117
 z24:=Tryz.sizeOf117
 v24:=Tryz.zeroValue117
 i24:=by kernel_rfl
 t25:=Tryz.underlying211
 a25:=Tryz.isAgg211
 z25:=Tryz.sizeOf211
 v25:=Tryz.zeroValue211
 i25:=by kernel_rfl
 t34:=Tryz.underlying231
 a34:=Tryz.isAgg231
 z34:=Tryz.sizeOf231
 v34:=Tryz.zeroValue231
 i34:=by kernel_rfl
 c34:=by kernel_rfl
 t36:=Tryz.underlying109
 a36:=Tryz.isAgg109
 z36:=Tryz.sizeOf109
 v36:=Tryz.zeroValue109
 i36:=by kernel_rfl
 t37:=Tryz.underlying85
 a37:=Tryz.isAgg85
 z37:=Tryz.sizeOf85
 v37:=Tryz.zeroValue85
 i37:=by kernel_rfl
 t39:=Tryz.underlying233
 a39:=Tryz.isAgg233
 z39:=Tryz.sizeOf233
 v39:=Tryz.zeroValue233
 i39:=by kernel_rfl
 t44:=Tryz.underlying239
 a44:=Tryz.isAgg239
 z44:=Tryz.sizeOf239
 v44:=Tryz.zeroValue239
 i44:=by kernel_rfl
 t47:=Tryz.underlying147
 a47:=Tryz.isAgg147
 z47:=Tryz.sizeOf147
 v47:=Tryz.zeroValue147
 i47:=by kernel_rfl
 t48:=Tryz.underlying241
 a48:=Tryz.isAgg241
 z48:=Tryz.sizeOf241
 v48:=Tryz.zeroValue241
 i48:=by kernel_rfl
 t50:=Tryz.underlying243
 a50:=Tryz.isAgg243
 z50:=Tryz.sizeOf243
 v50:=Tryz.zeroValue243
 i50:=by kernel_rfl
 t52:=Tryz.underlying205
 a52:=Tryz.isAgg205
 z52:=Tryz.sizeOf205
 v52:=Tryz.zeroValue205
 i52:=by kernel_rfl
 t55:=Tryz.underlying208
 a55:=Tryz.isAgg208
 z55:=Tryz.sizeOf208
 v55:=Tryz.zeroValue208
 i55:=by kernel_rfl
 t59:=Tryz.underlying219
 a59:=Tryz.isAgg219
 z59:=Tryz.sizeOf219
 v59:=Tryz.zeroValue219
 i59:=by kernel_rfl
 t60:=Tryz.underlying142
 a60:=Tryz.isAgg142
 z60:=Tryz.sizeOf142
 v60:=Tryz.zeroValue142
 i60:=by kernel_rfl
 t61:=Tryz.underlying220
 a61:=Tryz.isAgg220
 z61:=Tryz.sizeOf220
 t65:=Tryz.underlying236
 a65:=Tryz.isAgg236
 z65:=Tryz.sizeOf236
 v65:=Tryz.zeroValue236
 i65:=by kernel_rfl
 t66:=Tryz.underlying237
 a66:=Tryz.isAgg237
 z66:=Tryz.sizeOf237
 v66:=Tryz.zeroValue237
 i66:=by kernel_rfl
 t67:=Tryz.underlying93
 a67:=Tryz.isAgg93
 z67:=Tryz.sizeOf93
 v67:=Tryz.zeroValue93
 i67:=by kernel_rfl
 g0:=by kernel_rfl
 m0:=by kernel_rfl
 g1:=by kernel_rfl
 m1:=by kernel_rfl
 g2:=by kernel_rfl
 m2:=by kernel_rfl
 g3:=by kernel_rfl
 m3:=by kernel_rfl
 g4:=by kernel_rfl
 m4:=by kernel_rfl }
open Go.RowKit Go.Sort Go.Lib in
theorem Tryz.strconv_Itoa (n:Int)(h0 : -9223372036854775808<=n)(h1:n<=9223372036854775807)(w:World)(htab:Lib.TabIs Tryz.prog w "internal/strconv.uint64pow10" .u64 Lib.pow10Tab) :
 Calls Tryz.prog 91 #[.int .i64 n] w fun e w'=>e=.returned (.string ⟨(Lib.itoa n).toArray⟩)/\∃ k os,w'=grow (w.drewN k) os:=Any.strconv_Itoa Tryz.laysM171 n h0 h1 w htab
open Go.RowKit in
theorem Tryz.strconv_ParseUint_10_at16_ok (s:ByteArray)(hmax:s.size<=9223372036854775806)(u:Nat)(h:Lib.parseUintB 16 s.data.toList=.ok u)(w:World) :
 Calls Tryz.prog 226 #[.string s,.int .i64 10,.int .i64 16] w fun e w'=>e=.returned (.tuple #[.int .u64 u,.nilIface])/\(w'=w\/w'=Lib.bytesWorld w 5 s):=Any.strconv_ParseUint_10_at16_ok Tryz.laysPu14 s hmax u h w
end Go.Proofs
