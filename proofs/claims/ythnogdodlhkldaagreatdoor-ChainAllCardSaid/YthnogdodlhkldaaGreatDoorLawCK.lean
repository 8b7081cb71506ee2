/- A request's block read as a whole, and such a read in a drawn region. -/
import Derived.Test.YthnogdodlhkldaaGreatDoorChH
set_option maxRecDepth 100000
set_option maxHeartbeats 4000000
namespace Go.Proofs.YthnogdodlhkldaaGreatDoor
open Go.RowKit
theorem RX.load {w:World}{R:Nat}{rk:Int}{rt:ByteArray}{o:Bool}{s2 h2:ByteArray}{p:Int}{pa2 q2:ByteArray}{mv:Bool}{rn:ByteArray}{pr:Bool}{o3:Bool}{s3 h3:ByteArray}{p3:Int}{pa3 q3:ByteArray}(a:RX w R rk rt o s2 h2 p pa2 q2 mv rn pr o3 s3 h3 p3 pa3 q3):(Instr.loadAt 42 (.pointer (some ⟨R,0,none⟩))).run Tryz.prog w=.ok (bN rk rt o s2 h2 p pa2 q2 mv rn pr o3 s3 h3 p3 pa3 q3) w:=by
 unfold bN;obtain⟨d0,d1,d2,d3,d4,d5,d6,d7,d8,d9,d10,d11,d12,d13,d14,d15,d16⟩:=a.cs
 go_simp
theorem rQ {C:World->Prop}{w:World}{A:Act}{o:Oper}{t:TypeId}{a:Operand}{p v:Value}(ho:o.op=.load t a)(hp:A.eval a=p)(h:(Instr.loadAt t p).run Tryz.prog w=.ok v w):Oper.quietAt Tryz.prog o A C w v:=by
 subst hp;obtain⟨dst,op,ty,pos,after,guard⟩:=o
 cases ho
 have e:(execOp A.eval { dst:=dst,op := .load t a,type:=ty,pos:=pos,after:=after,guard:=guard }).run Tryz.prog w=.ok (.value v) w:=by
  show(Instr.loadAt t (A.eval a) >>= fun x=>(pure (Next.value x):Sem Next)).run Tryz.prog w=_;rw[Go.Sem.run_bind,h];rfl
 unfold Oper.quietAt;rw[e];exact⟨rfl,rfl⟩
end Go.Proofs.YthnogdodlhkldaaGreatDoor
