/- A job (layer 21) as plain data: what a step makes of it. -/
import Derived.Test.YtigfjedohdgjfaaGreatDoorTxM
import Derived.Test.YtigfjedohdgjfaaGreatDoorJCoMPgR
import Derived.Test.YtigfjedohdgjfaaGreatDoorCodB
import Derived.Test.YtigfjedohdgjfaaGreatDoorJCtMChM
import Derived.Test.YtigfjedohdgjfaaGreatDoorJCtMChM
import Derived.Test.YtigfjedohdgjfaaGreatDoorJCtMChM
import Derived.Test.YtigfjedohdgjfaaGreatDoorJCtMChM
namespace Go.Proofs.YtigfjedohdgjfaaGreatDoor.Pj
open Go.RowKit (wrap64)
open Tl (Wn wn0 nth)
inductive Ak where
 | ct (m:Tl.Ct.Mc)
 | qu (m:Tl.Qu.Mc)
 | di (m:Tl.Di.Mc)
 | ch (m:Tl.Ch.Mc)
structure Jb where
 cf:Tl.Pc.Cf
 code:ByteArray
 args:List Int
 nr:Int
 tx:Tx
 pub:Bool
 pl:Int
 nx:Int
 st:List Int
 rt:List Int
 tl:List Int
 wt:Wn
 ak:Option Ak
 rd:Int
 er:List Ev
 ov:Bool
 err:Int
def newTx (c:Tl.Pc.Cf):Tx:=newX c.ring.toNat c.st c.multi c.wrs.toNat
def Jb.again (j:Jb):Jb:={ j with nr:=j.nr+1,tx:=newTx j.cf,pub:=false,pl:=0,nx:=0,st:=[],rt:=[],tl:=[],wt:=wn0,ak:=none,rd:=0 }
def newJ (c:Tl.Pc.Cf) (code:ByteArray) (args:List Int):Jb:=⟨c,code,args,1,newTx c,false,0,0,[],[],[],wn0,none,0,[],false,0⟩
def Jb.push (j:Jb) (v:Int):Jb:={ j with st:=j.st ++ [v] }
def Jb.fail (j:Jb) (why:Int):Jb:=if (why=3∨why=4)∧j.nr≠j.cf.tries then Jb.again { j with er:=j.er++j.tx.ev } else { j with ov:=true,err:=why }
structure So where
 j:Jb
 L:List Ac
 k:Int
 e:Int
 v:Int
 y:Bool
def Jb.seen (j:Jb) (x:Tx):Jb:={ j with tx:=x,pub:=j.pub || decide (x.phase=5) }
def waOf (x:Wn):Wa:=⟨x.kind,x.cell,x.val,x.code⟩
end Go.Proofs.YtigfjedohdgjfaaGreatDoor.Pj
