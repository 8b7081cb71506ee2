/- The first of the five signs that no source's path has (the library's ContainsAny at any text): bytes that are none of a text of code points, too. -/
import Derived.Test.YthnogdodlhkldaaGreatDoorWalkX
set_option maxRecDepth 1000000
set_option maxHeartbeats 2000000
namespace Go.Proofs.YthnogdodlhkldaaGreatDoor
open Go.RowKit Go.Lib
theorem aZ0 (w:World):Calls Tryz.prog 250 #[.string ⟨#[63,35,44,59,58]⟩,.int .i32 65533] w fun e w'=>e=.returned (.int .i64 (-1))/\Below w.heap.size w w':=by
 go_enter Tryz.func250,Tryz.ntmps250
 go_wp2
 go_loopg [5,6] 5 (fun g _ _ wx=>∃ i:Nat,i+g=5/\wx=w.iter ⟨#[63,35,44,59,58]⟩ i)
 case atStart=>exact⟨0,by omega,rfl⟩
 case round =>
  obtain⟨i,hig,rfl⟩:=hrel;obtain rfl | rfl | rfl | rfl | rfl | rfl:i=0\/i=1\/i=2\/i=3\/i=4\/i=5:=by omega
  · obtain rfl:gk=5:=by omega
    have hnx:=fun ty=>run_next_ascii (P:=Tryz.prog) w ⟨#[63,35,44,59,58]⟩ 0 ty (by decide) (by decide)
    go_wp2
    go_roundg 4
    case measure=>omega
    case rel=>exact⟨1,by omega,rfl⟩
  · obtain rfl:gk=4:=by omega
    have hnx:=fun ty=>run_next_ascii (P:=Tryz.prog) w ⟨#[63,35,44,59,58]⟩ 1 ty (by decide) (by decide)
    go_wp2
    go_roundg 3
    case measure=>omega
    case rel=>exact⟨2,by omega,rfl⟩
  · obtain rfl:gk=3:=by omega
    have hnx:=fun ty=>run_next_ascii (P:=Tryz.prog) w ⟨#[63,35,44,59,58]⟩ 2 ty (by decide) (by decide)
    go_wp2
    go_roundg 2
    case measure=>omega
    case rel=>exact⟨3,by omega,rfl⟩
  · obtain rfl:gk=2:=by omega
    have hnx:=fun ty=>run_next_ascii (P:=Tryz.prog) w ⟨#[63,35,44,59,58]⟩ 3 ty (by decide) (by decide)
    go_wp2
    go_roundg 1
    case measure=>omega
    case rel=>exact⟨4,by omega,rfl⟩
  · obtain rfl:gk=1:=by omega
    have hnx:=fun ty=>run_next_ascii (P:=Tryz.prog) w ⟨#[63,35,44,59,58]⟩ 4 ty (by decide) (by decide)
    go_wp2
    go_roundg 0
    case measure=>omega
    case rel=>exact⟨5,by omega,rfl⟩
  · have hnx:=run_next_end (P:=Tryz.prog) w ⟨#[63,35,44,59,58]⟩ 5
    go_wp2
    go_ret
    exact⟨rfl,(zB _ _).alloc (zL _) _⟩
theorem aZ1 (x:Nat)(h1:128<=x)(he:x≠65533)(hv:Lib.validRune (x:Int)=false)(w:World):Calls Tryz.prog 250 #[.string ⟨#[63,35,44,59,58]⟩,.int .i32 (x:Int)] w fun e w'=>e=.returned (.int .i64 (-1))/\w'=w:=by
 have z1:¬ ((x:Int)<128):=by omega
 have z2:((x:Int)==65533)=false:=by rw[beq_eq_false_iff_ne];omega
 have CV:=lO x false hv;clear hv h1 he
 go_enter Tryz.func250,Tryz.ntmps250
 go_wp2_with (go_at_call 266;refine(CV.out _).mono ?_;rintro e w ⟨rfl,rfl⟩)
 go_ret
 exact⟨rfl,rfl⟩
theorem aI9 (x:Nat)(h1:128<=x)(he:x≠65533)(hv:Lib.validRune (x:Int)=true)(E:ByteArray)(hE:E.size=2)(b:UInt8)(hb0:∀ h:1<E.size,E[1]=b)(hb:128<=b.toNat)(hconv:∀ W,(convert 21 9 (.int .i32 (x:Int))).run Tryz.prog W=.ok (.string E) W)(w:World):Calls Tryz.prog 250 #[.string ⟨#[63,35,44,59,58]⟩,.int .i32 (x:Int)] w fun e w'=>e=.returned (.int .i64 (-1))/\Below w.heap.size w w':=by
 have z1:¬ ((x:Int)<128):=by omega
 have z2:((x:Int)==65533)=false:=by rw[beq_eq_false_iff_ne];omega
 have CV:=lO x true hv;have hsz:(E.size:Int)=2:=by omega
 have h10:1<E.size:=by omega
 have hix:∀ W,(Instr.index 9 (.string E) (.int .i64 1)).run Tryz.prog W=.ok (.int .u8 (b.toNat:Int)) W:=fun W=>by
  rw[run_index_string (P:=Tryz.prog) W 9 _ .i64 1 Tryz.underlying9];rw[dif_pos (by refine⟨by omega,?_⟩;omega)];rw[<- hb0 h10];rfl
 have hix2:∀ W,(Instr.index 9 (.string ⟨#[63,35,44,59,58]⟩) (.int .i64 1)).run Tryz.prog W=.ok (.int .u8 35) W:=fun W=>by kernel_rfl
 have hsl:∀ W,(Instr.slice 9 (.string ⟨#[63,35,44,59,58]⟩) (some (.int .i64 (IntKind.i64.wrap 2))) none none).run Tryz.prog W=.ok (.string ⟨#[44,59,58]⟩) W:=fun W=>by kernel_rfl
 have g1:((35:Int) != (b.toNat:Int))=true:=by rw[bne_iff_ne];omega
 have C:=gE ⟨#[44,59,58]⟩ b (-1) (by
  rcases dT [44,59,58] b with ⟨hc,_⟩ | ⟨_,hn⟩
  · exfalso
    simp at hc;rcases hc with rfl | rfl | rfl<;>revert hb<;>decide
  · exact hn)
 clear hv h1 he hb0 hE
 go_enter Tryz.func250,Tryz.ntmps250
 go_wp2_with (go_at_call 266;refine(CV.out _).mono ?_;rintro e w ⟨rfl,rfl⟩)
 go_step3
 go_wp2
 refine wp_loop_rounds 1 ?_;rw[rounds_succ]
 go_wp2
 go_step3
 go_wp2
 go_quiet (fail)
 go_wp2
 go_region_held3 (fun _=>True) (trivial) ((go_at_call 120;refine(C.out _).mono ?_;rintro e w' ⟨rfl,rfl⟩))
 go_wp2
 rw[Exit.noGoto_ret]
 go_wp2
 rw[Exit.noGoto_ret]
 go_ret
 exact⟨rfl,cL (zB _ _) _⟩
theorem aI8 (x:Nat)(h1:128<=x)(he:x≠65533)(hv:Lib.validRune (x:Int)=true)(E:ByteArray)(hE:E.size=3)(b:UInt8)(hb0:∀ h:2<E.size,E[2]=b)(hb:128<=b.toNat)(hconv:∀ W,(convert 21 9 (.int .i32 (x:Int))).run Tryz.prog W=.ok (.string E) W)(w:World):Calls Tryz.prog 250 #[.string ⟨#[63,35,44,59,58]⟩,.int .i32 (x:Int)] w fun e w'=>e=.returned (.int .i64 (-1))/\Below w.heap.size w w':=by
 have z1:¬ ((x:Int)<128):=by omega
 have z2:((x:Int)==65533)=false:=by rw[beq_eq_false_iff_ne];omega
 have CV:=lO x true hv;have hsz:(E.size:Int)=3:=by omega
 have h10:2<E.size:=by omega
 have hix:∀ W,(Instr.index 9 (.string E) (.int .i64 2)).run Tryz.prog W=.ok (.int .u8 (b.toNat:Int)) W:=fun W=>by
  rw[run_index_string (P:=Tryz.prog) W 9 _ .i64 2 Tryz.underlying9];rw[dif_pos (by refine⟨by omega,?_⟩;omega)];rw[<- hb0 h10];rfl
 have hix2:∀ W,(Instr.index 9 (.string ⟨#[63,35,44,59,58]⟩) (.int .i64 2)).run Tryz.prog W=.ok (.int .u8 44) W:=fun W=>by kernel_rfl
 have hsl:∀ W,(Instr.slice 9 (.string ⟨#[63,35,44,59,58]⟩) (some (.int .i64 (IntKind.i64.wrap 3))) none none).run Tryz.prog W=.ok (.string ⟨#[59,58]⟩) W:=fun W=>by kernel_rfl
 have g1:((44:Int) != (b.toNat:Int))=true:=by rw[bne_iff_ne];omega
 have C:=gE ⟨#[59,58]⟩ b (-1) (by
  rcases dT [59,58] b with ⟨hc,_⟩ | ⟨_,hn⟩
  · exfalso
    simp at hc;rcases hc with rfl | rfl<;>revert hb<;>decide
  · exact hn)
 clear hv h1 he hb0 hE
 go_enter Tryz.func250,Tryz.ntmps250
 go_wp2_with (go_at_call 266;refine(CV.out _).mono ?_;rintro e w ⟨rfl,rfl⟩)
 go_step3
 go_wp2
 refine wp_loop_rounds 1 ?_;rw[rounds_succ]
 go_wp2
 go_step3
 go_wp2
 go_quiet (fail)
 go_wp2
 go_region_held3 (fun _=>True) (trivial) ((go_at_call 120;refine(C.out _).mono ?_;rintro e w' ⟨rfl,rfl⟩))
 go_wp2
 rw[Exit.noGoto_ret]
 go_wp2
 rw[Exit.noGoto_ret]
 go_ret
 exact⟨rfl,cL (zB _ _) _⟩
theorem aI7 (x:Nat)(h1:128<=x)(he:x≠65533)(hv:Lib.validRune (x:Int)=true)(E:ByteArray)(hE:E.size=4)(b:UInt8)(hb0:∀ h:3<E.size,E[3]=b)(hb:128<=b.toNat)(hconv:∀ W,(convert 21 9 (.int .i32 (x:Int))).run Tryz.prog W=.ok (.string E) W)(w:World):Calls Tryz.prog 250 #[.string ⟨#[63,35,44,59,58]⟩,.int .i32 (x:Int)] w fun e w'=>e=.returned (.int .i64 (-1))/\Below w.heap.size w w':=by
 have z1:¬ ((x:Int)<128):=by omega
 have z2:((x:Int)==65533)=false:=by rw[beq_eq_false_iff_ne];omega
 have CV:=lO x true hv;have hsz:(E.size:Int)=4:=by omega
 have h10:3<E.size:=by omega
 have hix:∀ W,(Instr.index 9 (.string E) (.int .i64 3)).run Tryz.prog W=.ok (.int .u8 (b.toNat:Int)) W:=fun W=>by
  rw[run_index_string (P:=Tryz.prog) W 9 _ .i64 3 Tryz.underlying9];rw[dif_pos (by refine⟨by omega,?_⟩;omega)];rw[<- hb0 h10];rfl
 have hix2:∀ W,(Instr.index 9 (.string ⟨#[63,35,44,59,58]⟩) (.int .i64 3)).run Tryz.prog W=.ok (.int .u8 59) W:=fun W=>by kernel_rfl
 have hsl:∀ W,(Instr.slice 9 (.string ⟨#[63,35,44,59,58]⟩) (some (.int .i64 (IntKind.i64.wrap 4))) none none).run Tryz.prog W=.ok (.string ⟨#[58]⟩) W:=fun W=>by kernel_rfl
 have g1:((59:Int) != (b.toNat:Int))=true:=by rw[bne_iff_ne];omega
 have C:=gE ⟨#[58]⟩ b (-1) (by
  rcases dT [58] b with ⟨hc,_⟩ | ⟨_,hn⟩
  · exfalso
    simp at hc;rcases hc with rfl<;>revert hb<;>decide
  · exact hn)
 clear hv h1 he hb0 hE
 go_enter Tryz.func250,Tryz.ntmps250
 go_wp2_with (go_at_call 266;refine(CV.out _).mono ?_;rintro e w ⟨rfl,rfl⟩)
 go_step3
 go_wp2
 refine wp_loop_rounds 1 ?_;rw[rounds_succ]
 go_wp2
 go_step3
 go_wp2
 go_quiet (fail)
 go_wp2
 go_region_held3 (fun _=>True) (trivial) ((go_at_call 120;refine(C.out _).mono ?_;rintro e w' ⟨rfl,rfl⟩))
 go_wp2
 rw[Exit.noGoto_ret]
 go_wp2
 rw[Exit.noGoto_ret]
 go_ret
 exact⟨rfl,cL (zB _ _) _⟩
theorem aI6 (x:Nat)(h1:128<=x)(w:World):Calls Tryz.prog 250 #[.string ⟨#[63,35,44,59,58]⟩,.int .i32 (x:Int)] w fun e w'=>e=.returned (.int .i64 (-1))/\Below w.heap.size w w':=by
 by_cases he:x=65533
 · subst he;exact aZ0 w
 cases hv:Lib.validRune (x:Int)
 · exact(aZ1 x h1 he hv w).mono fun e w' h=>⟨h.1,by rw[h.2];exact zB _ _⟩
 · obtain⟨E,e1,e2,e3,hconv⟩:=enc_of x h1 hv
   have e3':=e3 (by omega);have hcase:E.size=2\/E.size=3\/E.size=4:=by omega
   rcases hcase with h2 | h2 | h2
   · have h10:1<E.size:=by omega
     have hq:E.size - 1=1:=by omega
     simp only[hq]at e3';exact aI9 x h1 he hv E h2 E[1] (fun _=>rfl) e3' hconv w
   · have h10:2<E.size:=by omega
     have hq:E.size - 1=2:=by omega
     simp only[hq]at e3';exact aI8 x h1 he hv E h2 E[2] (fun _=>rfl) e3' hconv w
   · have h10:3<E.size:=by omega
     have hq:E.size - 1=3:=by omega
     simp only[hq]at e3';exact aI7 x h1 he hv E h2 E[3] (fun _=>rfl) e3' hconv w
theorem rO (x:Nat)(h1:x<128)(n:Int)(hn:Lib.indexByte [63,35,44,59,58] x.toUInt8=n)(w:World):Calls Tryz.prog 250 #[.string ⟨#[63,35,44,59,58]⟩,.int .i32 (x:Int)] w fun e w'=>e=.returned (.int .i64 n)/\Below w.heap.size w w':=by
 have h:=Tryz.strings_IndexRune_ascii ⟨#[63,35,44,59,58]⟩ (x:Int) w (by omega) (by omega);rw[Int.toNat_natCast]at h;rw[<- hn];exact h.mono fun e w' h=>⟨h.1,by rw[h.2];exact zB _ _⟩
theorem aX5 (s:ByteArray)(i:Nat)(hi:i<s.size) :
 (∃ b,s.data.toList[i]? = some b/\[63,35,44,59,58].contains b=true/\(Utf8.decode s i).1=b.toNat/\b.toNat<128) \/
 ((∀ w:World,Calls Tryz.prog 250 #[.string ⟨#[63,35,44,59,58]⟩,.int .i32 ((Utf8.decode s i).1:Int)] w fun e w'=>e=.returned (.int .i64 (-1))/\Below w.heap.size w w')/\1<=(Utf8.decode s i).2/\i+(Utf8.decode s i).2<=s.size/\∀ k b,i<=k->k<i+(Utf8.decode s i).2->s.data.toList[k]? = some b->[63,35,44,59,58].contains b=false):=by
 obtain⟨b,hb1,hb2,_⟩:=iS hi
 by_cases h:(s.get! i).toNat<128
 · rw[vF s i h]
   rw[hb2]at h ⊢;have hm:=dT [63,35,44,59,58] b;have e:b.toNat.toUInt8=b:=by simp
   rcases hm with ⟨hc,_⟩ | ⟨hc,hn⟩
   · exact .inl ⟨b,hb1,hc,rfl,h⟩
   · refine .inr ⟨fun w=>rO b.toNat h (-1) (by rw[e];exact hn) w,zL _,by show i+1<=s.size;omega,fun k c h1 h2 h3 => ?_⟩
     obtain rfl:k=i:=by have:k<i+1:=h2;omega
     rw[hb1]at h3;cases h3;exact hc
 · obtain⟨h1,h2,h3,h4⟩:=aE6 s i hi h
   refine .inr ⟨fun w=>aI6 _ h1 w,h2,h3,fun k c k1 k2 k3 => ?_⟩;have:=h4 k c k1 k2 k3
   cases hc:[63,35,44,59,58].contains c
   · rfl
   · exfalso
     simp at hc;rcases hc with rfl | rfl | rfl | rfl | rfl<;>revert this<;>decide
theorem aR8 (s:ByteArray)(h8:s.size<=8)(w:World):Calls Tryz.prog 264 #[.string s,.string ⟨#[63,35,44,59,58]⟩] w fun e w'=>e=.returned (.int .i64 (Lib.indexAny s.data.toList [63,35,44,59,58]))/\Below w.heap.size w w':=by
 have h8z:decide ((8:Int)<(s.size:Int))=false:=decide_eq_false (by omega)
 have CU:Hid (∀ W,Calls Tryz.prog 276 #[.int .i64 (s.size:Int)] W fun e w'=>e=.returned (.bool false)/\w'=W):=zH fun W=>by
  have:=Tryz.strings_shouldUseASCIISet (s.size:Int) W;rw[h8z]at this;exact this
 clear h8z
 go_enter Tryz.func264,Tryz.ntmps264
 go_wp2_with (go_at_call 276;refine(CU.out _).mono ?_;rintro e w ⟨rfl,rfl⟩)
 go_loopg [9,10] s.size (fun g _ _ wx=>∃ i:Nat,s.size<=i+g/\i<=s.size/\wx.heap[w.heap.size]? = some (.stringIter s i)/\Below w.heap.size w wx/\Hid (Lib.NoAny s.data.toList [63,35,44,59,58] i))
 case atStart=>exact⟨0,by omega,by omega,World.iter_heap w s 0,(zB _ _).alloc (zL _) _,zH (Lib.NoAny.zero _ _)⟩
 case round =>
  obtain⟨i,hig,his,hit,hbw,HN⟩:=hrel
  by_cases hi:i<s.size
  · obtain⟨g',rfl⟩:∃ g',gk=g'+1:=⟨gk - 1,by omega⟩
    have hnx:∀ ty,(Instr.next (.pointer (some ⟨w.heap.size,0,none⟩)) true ty).run Tryz.prog wr=_:=fun ty=>Lib.run_next_any_at wr w.heap.size s i ty hit hi;have hstep:=aX5 s i hi;obtain⟨R,hR⟩:∃ R,(Utf8.decode s i).1=R:=⟨_,rfl⟩;obtain⟨K,hK⟩:∃ K,(Utf8.decode s i).2=K:=⟨_,rfl⟩;rw[hR,hK]at hnx hstep;have hit2:=Lib.iterAt_heap wr w.heap.size s i (i+K) hit;have hbw2:=Lib.below_iterAt hbw (k:=w.heap.size) (zL _) s (i+K);obtain⟨W,hWd⟩:∃ W,wr.iterAt w.heap.size s (i+K)=W:=⟨_,rfl⟩;rw[hWd]at hnx hit2 hbw2;have hlt9:w.heap.size<W.heap.size:=(Array.getElem?_eq_some_iff.1 hit2).1;clear hit hbw hR hK hWd;rcases hstep with ⟨b,hb1,hbc,rfl,hb128⟩ | ⟨hC,hk1,hk2,hno⟩
    · have hm:=dT [63,35,44,59,58] b
      obtain⟨n,hn⟩:∃ n,Lib.indexByte [63,35,44,59,58] b=n:=⟨_,rfl⟩;have e:b.toNat.toUInt8=b:=by simp
      have C:=zH (fun w=>rO b.toNat hb128 n (by rw[e];exact hn) w);rw[hn]at hm
      have hn0:(0:Int)<=n:=by
       rcases hm with ⟨_,h⟩ | ⟨h,_⟩
       · exact h
       · rw[hbc]at h;cases h
      have HR:Hid (Lib.indexAny s.data.toList [63,35,44,59,58]=(i:Int)):=zH (Lib.indexAny_hit HN.out hb1 hbc);clear hm hn e HN hb1 hbc
      go_wp2_with (go_at_call 250;refine(C.out _).mono ?_;rintro e w3 ⟨rfl,b3⟩)
      go_ret
      exact⟨cV HR.out.symm,hbw2.trans (b3.mono hbw2.size)⟩
    · have HN2:Hid (Lib.NoAny s.data.toList [63,35,44,59,58] (i+K)):=zH (fun j b hj hb=>by
       by_cases h:j<i
       · exact HN.out j b h hb
       · exact hno j b (by omega) hj hb)
      have C:=zH hC;clear hC hno HN
      go_wp2_with (go_at_call 250;refine(C.out _).mono ?_;rintro e w3 ⟨rfl,b3⟩)
      go_roundg g'
      case measure=>omega
      case rel=>exact⟨i+K,by omega,hk2,by rw[b3.block _ hlt9];exact hit2,hbw2.trans (b3.mono hbw2.size),HN2⟩
  · obtain rfl:i=s.size:=by omega
    have hnx:∀ ty,(Instr.next (.pointer (some ⟨w.heap.size,0,none⟩)) true ty).run Tryz.prog wr=_:=fun ty=>Lib.run_next_end_at wr w.heap.size s s.size ty hit hi;have HR:Hid (Lib.indexAny s.data.toList [63,35,44,59,58] = -1):=zH (Lib.indexAny_none (by rw[aE];exact HN.out))
    go_wp2
    go_ret
    exact⟨cV HR.out.symm,hbw⟩
theorem any_five (s:ByteArray)(hs:s.size<=1000000000)(w:World):Calls Tryz.prog 264 #[.string s,.string ⟨#[63,35,44,59,58]⟩] w fun e w'=>e=.returned (.int .i64 (Lib.indexAny s.data.toList [63,35,44,59,58]))/\Below w.heap.size w w':=by
 by_cases h8:s.size<=8
 · exact aR8 s h8 w
 · have h116:(Tryz.prog.info? 177).map (fun i=>(i.zero,i.size))=some (some (.agg (Array.replicate 256 (.bool false))),256):=by kernel_rfl
   refine(Tryz.strings_IndexAny_long (zero_of_info h116).1 s ⟨#[63,35,44,59,58]⟩ w (show 2<=5 by decide) (by omega) (by omega) (by decide) (fun j b hj=>by
    have:b∈[(63:UInt8),35,44,59,58]:=List.mem_of_getElem? hj
    simp at this;rcases this with rfl | rfl | rfl | rfl | rfl<;>decide)).mono fun e w' ⟨h1,h2⟩=>⟨h1,?_⟩
   rw[h2];exact((zB _ _).alloc (zL _) _).alloc (by simp) _
theorem tT (s:ByteArray)(hs:s.size<=1000000000)(w:World):Calls Tryz.prog 228 #[.string s,.string ⟨#[63,35,44,59,58]⟩] w fun e w'=>e=.returned (.bool (s.data.toList.any [63,35,44,59,58].contains))/\Below w.heap.size w w':=by
 obtain⟨n,hn⟩:∃ n,Lib.indexAny s.data.toList [63,35,44,59,58]=n:=⟨_,rfl⟩;have C:Hid (∀ W,Calls Tryz.prog 264 #[.string s,.string ⟨#[63,35,44,59,58]⟩] W fun e w'=>e=.returned (.int .i64 n)/\Below W.heap.size W w'):=zH fun W=>by rw[<- hn];exact any_five s hs W
 have HR:Hid (decide (0<=n)=s.data.toList.any [63,35,44,59,58].contains):=zH (by
  rw[<- hn];rcases bF8 [63,35,44,59,58] [63,35,44,59,58].contains (fun _=>rfl) s.data.toList with ⟨h1,h2,_⟩ | ⟨k,h0,h1,h2,h3⟩
  · rw[h1,show decide ((0:Int) <= -1)=false from rfl]
    symm
    rw[List.any_eq_false];intro b hb;rw[<- h2]at hb;have:=upto_no _ _ b hb
    simpa using this
  · rw[h1,decide_eq_true (by omega)]
    symm
    rw[List.any_eq_true]
    cases hd:s.data.toList.drop k with
    | nil=>have:=congrArg List.length hd;simp at this h0;omega
    | cons c r =>
      rw[hd]at h3
      exact⟨c,List.mem_of_mem_drop (i:=k) (by rw[hd];simp),bC4 _ _ _ _ h3⟩)
 clear hn;generalize s.data.toList.any [63,35,44,59,58].contains=r at HR
 go_enter Tryz.func228,Tryz.ntmps228
 go_wp2_with (go_at_call 264;(with_reducible refine(C.out _).mono ?_);rintro e w1 ⟨rfl,b1⟩)
 go_ret
 exact⟨aA HR.out,b1⟩
theorem nZ (s:ByteArray)(r:Bool)(hs:s.size<=1000000000)(hr:s.data.toList.any [63,35,44,59,58].contains=r):Hid (∀ W,Calls Tryz.prog 228 #[.string s,.string ⟨#[63,35,44,59,58]⟩] W fun e w'=>e=.returned (.bool r)/\Below W.heap.size W w'):=zH fun W=>by rw[<- hr];exact tT s hs W
end Go.Proofs.YthnogdodlhkldaaGreatDoor
