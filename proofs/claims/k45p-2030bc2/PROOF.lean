import PyProof.Rows.All
import Wide.All
import OpenK.AllK
import Wide.FinOn
import Lean
import PyProof.EqAt
import PyProof.EqKinds
import PyProof.TupleCall
import PySem.Challenge.RW_tautroads_k45_whole_by_without_and_count
set_option genSizeOf false
set_option genInjectivity false
set_option Elab.async false
set_option compiler.extract_closed false
set_option bootstrap.genMatcherCode false
set_option linter.all false
set_option maxRecDepth 100000
noncomputable section
local macro_rules|`(⇑$x)=>`(.d (.int $x))
local macro_rules|`(∅)=>`(by omega)
theorem nlq {n m:Nat}(h:Nat.ble n m=true):n ≤ m:=Nat.le_of_ble_eq_true h
set_option hygiene false in
local macro_rules|`(00)=>`((zab rfl (zab rfl rfl rfl) rfl))|`(01)=>`([false,false,false,false])|`(02)=>`((netD n rs))|`(03)=>`((zao n.toNat rs))|`(04)=>`((zal rfl rfl rfl rfl rfl rfl))|`(05)=>`([false,false,false])|`(06)=>`([false,false])|`(07)=>`((zac (zaa 0) (zac (zaa 1) (zac (zaa 2) aNil))))|`(08)=>`((Option Int))|`(09)=>`((zaC rfl rfl rfl))|`(000)=>`((model X.prog X.w))|`(001)=>`((fun ds=>ds.map O.d))|`(002)=>`((fun _ _ _ _ _ _ _ hr =>∅))|`(003)=>`((farS one 40000000000))|`(004)=>`([.d N,.d I,.d Td,.d Z,.d (.tuple [.int L,Io])])|`(005)=>`((sRet mov (eC (.bool false))))
set_option hygiene false in
local macro_rules|`(006)=>`((zac (zaa 0) (zac (zaa 1) aNil)))|`(007)=>`((.list (rs.map zaG)))|`(008)=>`((zab rfl 00 rfl))|`(009)=>`((zab rfl rfl rfl))|`(010)=>`((Addr×Obj))|`(011)=>`((zac (zaa 1) (zac (eFz (eSl (zaa 1) (zcZ ↥1) oNo)) aNil)))|`(012)=>`((blk X N' scope s3 H (s.heap.objs.size::fp)))|`(013)=>`((eC .none))|`(014)=>`((ns.map V.int))|`(015)=>`((Option Nat))|`(016)=>`([.d N,⇑p,⇑q,.d (oD due),.l Th,.l Wa,⇑i,.d D7,.d (oD off),z9])|`(017)=>`((.ListComp elt [⟨tgt,iter,ifs,0⟩] scope pos))|`(018)=>`((S.take k++S.drop (k+1)))|`(019)=>`((zac (zaa 0) (zac (zaa 1) (zac (zaa 2) (zac (zaa 3) aNil)))))|`(020)=>`((S.map PyData.int))|`(021)=>`((PySem.W.fnOf x x (zdF st) (zcg st) (zae st) .none kV doc pm an cdv ct))
set_option hygiene false in
local macro_rules|`(022)=>`((Nat.le_refl _))|`(023)=>`([.q 014,⇑k,.l [⇑x2,⇑y2,⇑c2],⇑n,.d Rd,.d Nd,⇑a,⇑b,⇑c,⇑d,.d Lo,.d Hi])|`(024)=>`((zaf (gtN 0) (zaf (gtN 1) zaV)))|`(025)=>`((fun h=>O.d (PyData.int h)))|`(026)=>`([.d 02,⇑one,⇑other,⇑k])|`(027)=>`((zaq (zal rfl rfl rfl rfl rfl fi) rfl))|`(028)=>`((s.heap.objs.size,{ cls:=.type "list",data:=.seq its.toArray k }))|`(029)=>`((zav n rs one other))|`(030)=>`((zac (zaa 0) aNil))|`(031)=>`((zaf (gtN 4) (zaf (gtT (zaf (gtN 5) (zaf (gtN 6) (zaf (gtN 7) zaV)))) zaV)))|`(032)=>`((zac (zaa 0) (zac (zaa 1) (zac (zaa 2) (zac (zaa 6) aNil)))))|`(033)=>`((gAnd (tst (e2 (zaa 7) 013 (fIs true))) (gNot (eSc trV (zah 01 zbI (zac (zaa 0) (zac (zaa 1) (zac (zaa 2) (zac (eIx (zaa 7) ↥1) aNil)))))))))|`(034)=>`((false,eval e X.env))|`(035)=>`((Or.inl rfl))|`(036)=>`([.d 02,⇑one,⇑other])|`(037)=>`((.d (.bool true)))
set_option hygiene false in
local macro_rules|`(038)=>`((zbt rfl 09 rfl rfl))|`(039)=>`((gAnd (tst (e2 (zaa 3) 013 (fIs true))) (gAnd (tst (e2 (zaa 7) 013 (fIs true))) (tst (e2 (eIx (zaa 7) ↥0) (zaa 3) (fEq false))))))|`(040)=>`((zaw rfl rfl (nlq rfl) rfl))|`(041)=>`([.d 02,⇑p,⇑q,w3,w4,w5,z6,z7,z8,z9,z10,z11])|`(042)=>`((.d .none))|`(043)=>`([.d N,⇑p,⇑q,.l to,.d y,.l os,⇑k,⇑u,⇑v,.d l])|`(044)=>`([.d N,⇑p,⇑q,⇑t,w4,w5,⇑a,⇑b,.d (.tuple [.int x,zai ws]),.d (.tuple [.int y,zai vs]),.d (.tuple [.int z,zai us]),z11])|`(045)=>`([.q 014,⇑k,.l [⇑x2,⇑y2,⇑c2],⇑n,.d Rd,.d Nd,⇑a,⇑b,⇑c,⇑d,z10,z11])|`(046)=>`((blk X N' scope s' H' ex))|`(047)=>`((zac (zaa 1) aNil))|`(048)=>`((zaA coes .l (zac (eIx (eIx (zaa 3) (zaa 1)) (zaa 7)) (zac (zaa 9) (zac (eIx (eIx (zaa 3) (zaa 8)) (zaa 2)) aNil)))))|`(049)=>`((gAnd (tst (e2 (zaa 10) 013 (fIs true))) (gAnd (tst (e2 (zaa 11) 013 (fIs true))) (tst (e2 (zaa 10) (zaa 11) fGt)))))|`(050)=>`((.list ds))|`(051)=>`(((List.range n.toNat).map (cnt n rs p q)))|`(052)=>`((model prog w))|`(053)=>`((if neg then !ds.any fun y=>PyData.eqv y d else ds.any fun y=>PyData.eqv y d))
set_option hygiene false in
local macro_rules|`(054)=>`([.d 02,⇑one,⇑other,⇑k,⇑n,.d (zar rs),rowO (gone n.toNat rs one k.toNat),stO n.toNat rs one k.toNat,z8,z9])|`(055)=>`((gRet true))|`(056)=>`((legs n rs S))|`(057)=>`((entD n.toNat e))|`(058)=>`((zac (zaa 2) aNil))|`(059)=>`((eIx (zaa 0) ↥1))|`(060)=>`([⇑(0+i),zad S,fnO (hO (zaz n.toNat rs 003).h) n.toNat])|`(061)=>`((zab rfl 008 rfl))|`(062)=>`((zaO rs k.toNat))|`(063)=>`((fun i j=>decide (i<=j)))|`(064)=>`((PyProof.Rows.callWith_type1 (thn (ha pos pins s σ H _ I h) fun us s1 ⟨vs,H1,I1,r1,q1⟩=>?_) hs rfl))|`(065)=>`((x==("__debug__":Str)))|`(066)=>`((ha pins s σ H _ I h))|`(067)=>`((zd8 X.env.cells scope.names []))|`(068)=>`((zac (zaa 0) (zac (zaa 3) aNil)))|`(069)=>`((eIx (zaa 0) ↥0))
set_option hygiene false in
local macro_rules|`(070)=>`((∀x c,X.env.cells.lookup x=some c->c≠b))|`(071)=>`((gone n.toNat rs one t))|`(072)=>`((gone n.toNat rs one k))|`(073)=>`((cel n rs p q))|`(074)=>`((List.mem_append_left _ hx))|`(075)=>`((fun r s'=>r=.ok (.ret (.bool true))/\OldK s₁.heap s'.heap/\s'.os=s₁.os/\AllBare s'.gens))|`(076)=>`((sIx items.size items.size hi - sIx items.size 0 lo))|`(077)=>`((sRet mov (zaA zig mkT (zac (eC (.str "way")) (zac (zaa 5) (zac (eIx (zaa 4) ↥2) aNil))))))|`(078)=>`((tabD 03))|`(079)=>`((nlq rfl))|`(080)=>`((rowD far))|`(081)=>`((List.mem_append_right _ (List.mem_append_right _ (zeC hb e))))|`(082)=>`(((zce n.toNat rs one k).map rowD))|`(083)=>`((sIf (tst (e2 (eIx (zaa 4) ↥0) (eC (.str "none")) (fEq false))) (sRet mov (zaa 4)) sNil))|`(084)=>`((H3.push { cls:=.type "dict",data:=.dict #[] }))|`(085)=>`((.d (.bool b)))
set_option hygiene false in
local macro_rules|`(086)=>`([true,false])|`(087)=>`([.d N,⇑p,⇑q,⇑t,w4,w5,⇑a,⇑b,.d D8,.d D9,.d D10,z11])|`(088)=>`([.d 02,⇑one,⇑other,⇑k,.z,.z,.z,.z,.z,.z])|`(089)=>`((fun x=>Inn f' x\/x∈As))|`(090)=>`((eIx (zaa 4) ↥1))|`(091)=>`((sIf (tst (e2 (zaa 4) 013 (fIs false))) (sRet mov (e2 (zaa 3) 013 (fIs false))) sNil))|`(092)=>`((S.drop 1))|`(093)=>`(((S.map PyData.int).drop 1))|`(094)=>`((if (1:Int) < 0 then ((1:Int)+(S.length:Int)).toNat else min (1:Int).toNat S.length))|`(095)=>`((fun x=>Inn f' x\/x∈B))|`(096)=>`((fun x z=>nomatch z))|`(097)=>`((b∈X.ex\/X.s₀.heap.objs.size<=b))|`(098)=>`((.lst xs))|`(099)=>`((zah 086 zak (zac (zaa 0) (zac ↥4 aNil))))|`(0000)=>`((fEq true))|`(0001)=>`((zac (zaa 7) aNil))
set_option hygiene false in
local macro_rules|`(0002)=>`((.d (.bool false)))|`(0003)=>`((o.on g.d fun x hx=>g.kept m.dom' (m.sub' x (.inr hx))))|`(0004)=>`((HT.sIx xs.length xs.length hi - HT.sIx xs.length 0 lo))|`(0005)=>`((zf2 ∅ (zaP zfd) zc3))|`(0006)=>`((zaI 00 rfl e1 rfl rfl))|`(0007)=>`((.ListComp elt [⟨tgt,.Call (.Name "range" p) [e] [] cpos,ifs,0⟩] scope pos))|`(0008)=>`((.Call (.Name x p) (e::es) [] pos))|`(0009)=>`((envOfC qual scope s.heap.objs.size f cd))|`(0010)=>`((A.deeper (envOfC x (zae st) s.heap.objs.size f cdv)))|`(0011)=>`((List.mem_append_right _ hx))|`(0012)=>`((cs.filterMap id))|`(0013)=>`((Int×List Int))|`(0014)=>`((.Call (.Attribute o "bit_length" apos) [] [] cpos))|`(0015)=>`((Nat.ne_of_lt (Nat.lt_of_lt_of_le (Heap.lt_size e) (I.ok.cab x c hfn hc))))|`(0016)=>`([none,some 0,some 1,some 2])|`(0017)=>`([.d N,⇑p,⇑q,⇑t,.d Td,.l X,.z,.z,.z,.z,.z,.z])
set_option hygiene false in
local macro_rules|`(0018)=>`([.d (.str s),zad W,y])|`(0019)=>`((zaq 04 rfl))|`(0020)=>`((if decide (due≠none/\on≠none/\on=due)=true then Th++[⇑i] else Th))|`(0021)=>`((gAnd (tst (e2 (zaa 3) 013 (fIs true))) (tst (e2 (zaa 8) (zaa 3) 0000))))|`(0022)=>`((fun x xs H Q=>∃i,x=.int i/\xs=[]/\Q (.int (Builtin.Int.intBits i)) H))|`(0023)=>`((fun h=>O.d (.int h)))
namespace L2
open PySem PySem.Spec PyProof.Rows
abbrev Key:=Sum Int Str
def zr2:Key->Value->Bool
 | .inl k,v=>Value.isInt k v
 | .inr x,v=>Value.isStrOf x v
def keyH (w:World):Key->Int
 | .inl k=>hashInt k
 | .inr x=>hashStr w x
theorem zbL:∀{k:Key} {v:Value},zr2 k v=true->(∃i t,k=Sum.inl i/\v=Value.int i t)\/(∃x t,k=Sum.inr x/\v=Value.str x t)
 | .inl i,v,h=>by
  obtain ⟨t,e⟩:=Value.isInt_shape (k:=i) (v:=v) h;exact .inl ⟨i,t,rfl,e⟩
 | .inr x,v,h=>by
  obtain ⟨t,e⟩:=Value.isStrOf_shape (x:=x) (v:=v) h;exact .inr ⟨x,t,rfl,e⟩
theorem zq9 (a b:Int):decide ((Sum.inl a:Key)=Sum.inl b)=(a==b):=by
 by_cases e:a=b
 .subst e;simp
 .have h:¬(Sum.inl a:Key)=Sum.inl b:=fun q=>e (Sum.inl.inj q)
  rw[decide_eq_false h];exact (beq_eq_false_iff_ne.mpr e).symm
theorem zrJ (a b:Str):decide ((Sum.inr a:Key)=Sum.inr b)=decide (a=b):=by
 by_cases e:a=b
 .subst e;simp
 .have h:¬(Sum.inr a:Key)=Sum.inr b:=fun q=>e (Sum.inr.inj q)
  rw[decide_eq_false h,decide_eq_false e]
theorem zsE (a:Int) (b:Str):decide ((Sum.inl a:Key)=Sum.inr b)=false:=decide_eq_false (fun q=>nomatch q)
theorem zsf (a:Str) (b:Int):decide ((Sum.inr a:Key)=Sum.inl b)=false:=decide_eq_false (fun q=>nomatch q)
def zi7 (prog:Program) (w:World):PySem.KeyKind prog w Key where
 is:=zr2
 hash:=keyH w
 inj:=fun v a b ha hb=>by
  rcases zbL ha with ⟨i,t,rfl,rfl⟩ | ⟨x,t,rfl,rfl⟩
  .rcases zbL hb with ⟨j,u,rfl,e⟩ | ⟨y,u,rfl,e⟩
   .injection e with e1 _;rw[e1]
   .exact nomatch e
  .rcases zbL hb with ⟨j,u,rfl,e⟩ | ⟨y,u,rfl,e⟩
   .exact nomatch e
   .injection e with e1 _;rw[e1]
 byValue:=fun k v h=>by
  rcases zbL h with ⟨i,t,rfl,rfl⟩ | ⟨x,t,rfl,rfl⟩<;>rfl
 pyHash:=fun hv h=>by
  rcases zbL hv with ⟨i,t,rfl,rfl⟩ | ⟨x,t,rfl,rfl⟩
  .exact wpAny_pyHash_int h
  .exact wpAny_pyHash_str h
 eqBool:=fun hu hv h=>by
  rcases zbL hu with ⟨i,t,rfl,rfl⟩ | ⟨x,t,rfl,rfl⟩
  .rcases zbL hv with ⟨j,u,rfl,rfl⟩ | ⟨y,u,rfl,rfl⟩
   .rw[zq9] at h;exact wpAny_eqBool_int h
   .rw[zsE] at h;exact SeqAt.EqAt.int_str i t y u _ _ _ _ h
  .rcases zbL hv with ⟨j,u,rfl,rfl⟩ | ⟨y,u,rfl,rfl⟩
   .rw[zsf] at h;exact SeqAt.EqAt.str_int x t j u _ _ _ _ h
   .rw[zrJ] at h;exact wpAny_eqBool_str h
 «strs»:=fun k x t v h=>by
  rcases zbL h with ⟨i,u,rfl,e⟩ | ⟨y,u,rfl,e⟩
  .exact nomatch e
  .injection e with e1 _
   subst e1
   cases v<;>rfl
inductive V where
 | non | bl (b:Bool) | int (i:Int) | str (x:Str) | byt (b:Array UInt8) | flt (b:UInt64) | ref (a:Addr) | ty (n:String)
 deriving DecidableEq
def RelV:V->Value->Prop
 | .non,u=>u=Value.none
 | .bl b,u=>u=Value.bool b
 | .int i,u=>∃t,u=Value.int i t
 | .str x,u=>∃t,u=Value.str x t
 | .byt b,u=>∃t,u=Value.bytes b t
 | .flt b,u=>∃t,u=Value.float b t
 | .ref a,u=>u=Value.ref a
 | .ty n,u=>u=Value.type n
abbrev Vals:List V->List Value->Prop:=Paired RelV
theorem Vals.length {xs:List V} {us:List Value} (r:Vals xs us):xs.length=us.length:=Paired.length r
theorem Vals.get:∀{xs:List V} {us:List Value} {i:Nat} {x:V},Vals xs us->xs[i]? = some x->∃u,us[i]? = some u/\RelV x u
 | _,_,_,_,.nil,e=>by simp at e
 | _,_,0,_,.cons r _,e=>by simp at e;subst e;exact ⟨_,rfl,r⟩
 | _,_,i+1,x,.cons _ t,e=>by
  obtain ⟨u,h1,h2⟩:=Vals.get (i:=i) (x:=x) t (by simpa using e);exact ⟨u,by simpa using h1,h2⟩
theorem Vals.set {x:V} {u:Value} (r:RelV x u):∀{xs:List V} {us:List Value} (i:Nat),Vals xs us->Vals (xs.set i x) (us.set i u)
 | _,_,_,.nil=>.nil
 | _,_,0,.cons _ t=>.cons r t
 | _,_,i+1,.cons q t=>.cons q (Vals.set r i t)
theorem Vals.append:∀{xs ys:List V} {us ws:List Value},Vals xs us->Vals ys ws->Vals (xs++ys) (us++ws)
 | _,_,_,_,.nil,s=>s
 | _,_,_,_,.cons r t,s=>.cons r (Vals.append t s)
theorem Vals.take:∀{xs:List V} {us:List Value} (n:Nat),Vals xs us->Vals (xs.take n) (us.take n)
 | _,_,0,_=>.nil
 | _,_,_+1,.nil=>.nil
 | _,_,n+1,.cons r t=>.cons r (Vals.take n t)
theorem Vals.drop:∀{xs:List V} {us:List Value} (n:Nat),Vals xs us->Vals (xs.drop n) (us.drop n)
 | _,_,0,r=>r
 | _,_,_+1,.nil=>.nil
 | _,_,n+1,.cons _ t=>Vals.drop n t
def RelO:Option V->Option Value->Prop
 | some v,some u=>RelV v u
 | none,none=>True
 | _,_=>False
def KV {κ:Type}:List (κ×V)->List (κ×Value)->Prop:=Paired fun (p:κ×V) (q:κ×Value)=>p.1=q.1/\RelV p.2 q.2
def kV:Key->V
 | .inl i=>.int i
 | .inr x=>.str x
inductive HO where
 /-- a list -/
 | lst (xs:List V)
 /-- a tuple (never changes) -/
 | tup (xs:List V)
 /-- a dict whose keys are ints and texts;one whose keys are tuples of ints and texts (the empty one is both) -/
 | dK (kvs:List (Key×V)) | dT (kvs:List (List Key×V))
 /-- a set of ints: its members,its size -/
 | set (S:Int->Bool) (n:Nat)
 /-- an instance of the class at C,its dict at dx,its attributes -/
 | ins (C dx:Addr) (fs:List (Str×V))
 /-- the dict of the instance at x -/
 | own (x:Addr)
 /-- the dict of an exception -/
 | xd (fs:List (Str×V))
 /-- a bound method,f of x -/
 | met (f x:Addr)
 /-- a range object lo,lo+1,.. below hi -/
 | rng (lo hi:Int)
 /-- a thing that is known to the object (the script;a dict while a loop walks it): read,never written while it is so -/
 | frz (o:Obj) (u:HO)
 /-- a code object's table -/
 | tbl (ps:Array Value)
 /-- any other thing,by what is true of its one object (a def of one's own: SetO a S n:=HO.ext fun h=>..) -/
 | ext (φ:Heap->Prop)
abbrev Hp:=Addr->Option HO
def upd (H:Hp) (a:Addr) (o:HO):Hp:=fun b=>if b=a then some o else H b
theorem zbu {H:Hp} {a:Addr} {o:HO}:upd H a o a=some o:=by unfold upd;rw[if_pos rfl]
theorem zaD {H:Hp} {a b:Addr} {o:HO} (h:b≠a):upd H a o b=H b:=by unfold upd;rw[if_neg h]
theorem zax {H:Hp} {a b:Addr} {o:HO} (h:H a=some o) (h':H b=none):a≠b:=by
 intro e;subst e;rw[h] at h';cases h'
section
variable (P:Program) (w:World)
def ObjOk (H:Hp) (h:Heap) (a:Addr):HO->Prop
 | .lst xs=>xs.length<=sizeLine/\∃(its:List Value) (n:Nat),Vals xs its/\h.get? a=some { cls:=.type "list",data:=.seq its.toArray n }
 | .tup xs=>xs.length<=sizeLine/\∃its:List Value,Vals xs its/\IsTup h a its.toArray
 | .dK kvs=>kvs.length<=sizeLine/\(a==sysModules)=false/\∃vs,KV kvs vs/\h.DictOf (zi7 P w) a vs
 | .dT kvs=>kvs.length<=sizeLine/\(a==sysModules)=false/\∃xs:List (List Key×Addr×Value),
   Paired (fun (p:List Key×V) (q:List Key×Addr×Value)=>p.1=q.1/\H q.2.1=some (.tup (p.1.map kV))/\RelV p.2 q.2.2) kvs xs/\
   ∃o es ep,h.get? a=some o/\o.ExactDict/\o.data=.dict es ep/\es.toList=xs.map (entryOfKey (tupleKind (zi7 P w)))/\(xs.map (·.1)).Nodup
 | .set S n=>h.SetOf (intKind P w) a S n
 | .ins C dx fs=>H dx=some (.own a)/\fs.length<=1000/\dx≠a/\h.get? a=some (PySem.W.instObj C dx)/\
   ∃mA,h.Ns1 dx mA/\(∀f,RelO (fs.lookup f) (mA f))/\PySem.Within mA (fs.map (·.1))
 | .own _=>∃o,h.get? a=some o
 | .xd fs=>∃mA,h.Ns1 a mA/\∀f,RelO (fs.lookup f) (mA f)
 | .rng lo hi=>∃t u v,h.get? a=some { cls:=.type "range",data:=.fields #[.int lo t,.int hi u,.int 1 v] }
 | .frz o u=>h.get? a=some o/\ObjOk H h a u
 | .tbl ps=>h.get? a=some { cls:=.none,data:=.fields ps }
 | .met f x=>h.get? a=some (PySem.W.methodObj (.ref f) (.ref x))
 | .ext φ=>φ h/\(∃o,h.get? a=some o)/\∀h1 h2:Heap,φ h1->(∀o,h1.get? a=some o->h2.get? a=some o)->φ h2
def HOk (H:Hp) (h:Heap):Prop:=∀a o,H a=some o->ObjOk P w H h a o
end
section
variable {P:Program} {w:World} {H H':Hp} {h h':Heap} {a:Addr} {o:HO}
theorem ObjOk.lt (x:ObjOk P w H h a o):a < h.objs.size:=by
 cases o with
 | lst xs=>obtain ⟨_,_,_,_,e⟩:=x;exact Heap.lt_size e
 | tup xs=>obtain ⟨_,_,_,p⟩:=x;exact p.lt
 | dK kvs=>obtain ⟨_,_,_,_,o,_,_,e,_⟩:=x;exact Heap.lt_size e
 | dT kvs=>obtain ⟨_,_,_,_,o,_,_,e,_⟩:=x;exact Heap.lt_size e
 | set S n=>obtain ⟨o,_,_,_,e,_⟩:=x;exact Heap.lt_size e
 | ins C dx fs=>obtain ⟨_,_,_,e,_⟩:=x;exact Heap.lt_size e
 | own y=>obtain ⟨_,e⟩:=x;exact Heap.lt_size e
 | xd fs=>obtain ⟨_,⟨_,_,_,e,_⟩,_⟩:=x;exact Heap.lt_size e
 | rng lo hi=>obtain ⟨_,_,_,e⟩:=x;exact Heap.lt_size e
 | frz ob u=>obtain ⟨e,_⟩:=x;exact Heap.lt_size e
 | tbl ps=>exact Heap.lt_size (show h.get? a=some _ from x)
 | met f y=>exact Heap.lt_size (show h.get? a=some _ from x)
 | ext φ=>obtain ⟨_,⟨_,e⟩,_⟩:=x;exact Heap.lt_size e
theorem Paired.mapP {α β:Type} {F G:α->β->Prop} {l₁:List α} {l₂:List β} (h:Paired F l₁ l₂) (f:∀a b,F a b->G a b):Paired G l₁ l₂:=by
 induction h with
 | nil=>exact .nil
 | cons r t ih=>exact .cons (f _ _ r) ih
theorem ObjOk.stay (x:ObjOk P w H h a o) (k:∀b u,(b=a\/H b=some (.own a))->h.get? b=some u->h'.get? b=some u)
  (ho:∀b,H b=some (.own a)->H' b=some (.own a)) (ht:∀b xs,H b=some (.tup xs)->H' b=some (.tup xs)):ObjOk P w H' h' a o:=by
 induction o with
 | lst xs=>obtain ⟨z,its,n,r,e⟩:=x;exact ⟨z,its,n,r,k _ _ (.inl rfl) e⟩
 | tup xs=>obtain ⟨z,its,r,ob,e,c⟩:=x;exact ⟨z,its,r,ob,k _ _ (.inl rfl) e,c⟩
 | dK kvs=>obtain ⟨z,y,vs,r,ob,es,ep,e,c⟩:=x;exact ⟨z,y,vs,r,ob,es,ep,k _ _ (.inl rfl) e,c⟩
 | dT kvs=>
  obtain ⟨z,y,xs,r,ob,es,ep,e,c⟩:=x;exact ⟨z,y,xs,Paired.mapP r fun p q z=>⟨z.1,ht _ _ z.2.1,z.2.2⟩,ob,es,ep,k _ _ (.inl rfl) e,c⟩
 | set S n=>obtain ⟨ob,es,ep,t,e,c⟩:=x;exact ⟨ob,es,ep,t,k _ _ (.inl rfl) e,c⟩
 | ins C dx fs=>
  obtain ⟨d,z,ne,e,mA,⟨od,es,ep,e2,c⟩,r⟩:=x;exact ⟨ho _ d,z,ne,k _ _ (.inl rfl) e,mA,⟨od,es,ep,k _ _ (.inr d) e2,c⟩,r⟩
 | own y=>obtain ⟨ob,e⟩:=x;exact ⟨ob,k _ _ (.inl rfl) e⟩
 | xd fs=>obtain ⟨mA,⟨od,es,ep,e,c⟩,r⟩:=x;exact ⟨mA,⟨od,es,ep,k _ _ (.inl rfl) e,c⟩,r⟩
 | rng lo hi=>obtain ⟨t,u,v,e⟩:=x;exact ⟨t,u,v,k _ _ (.inl rfl) e⟩
 | frz ob u ih=>obtain ⟨e,q⟩:=x;exact ⟨k _ _ (.inl rfl) e,ih q⟩
 | tbl ps=>
  have e:h.get? a=some { cls:=.none,data:=.fields ps }:=x
  show h'.get? a=some { cls:=.none,data:=.fields ps }
  exact k a _ (.inl rfl) e
 | met f y=>
  have e:h.get? a=some (PySem.W.methodObj (.ref f) (.ref y)):=x
  show h'.get? a=some (PySem.W.methodObj (.ref f) (.ref y))
  exact k a _ (.inl rfl) e
 | ext φ=>obtain ⟨p,⟨o,e⟩,st⟩:=x;exact ⟨st _ _ p fun o q=>k _ _ (.inl rfl) q,⟨o,k _ _ (.inl rfl) e⟩,st⟩
theorem HOk.lt (x:HOk P w H h) (e:H a=some o):a < h.objs.size:=(x a o e).lt
theorem HOk.fresh (x:HOk P w H h) (e:h.objs.size<=a):H a=none:=by
 cases q:H a with
 | none=>rfl
 | some u=>exact absurd (Nat.lt_of_lt_of_le (x.lt q) e) (Nat.lt_irrefl _)
theorem HOk.kept (x:HOk P w H h) (k:∀b u,h.get? b=some u->h'.get? b=some u):HOk P w H h':=fun a o e=>
 (x a o e).stay (fun b u _ q=>k b u q) (fun _ q=>q) fun _ _ q=>q
theorem HOk.laid (x:HOk P w H h) (k:∀b u,h.get? b=some u->h'.get? b=some u) (hp:h.objs.size<=a) (new:ObjOk P w (upd H a o) h' a o):HOk P w (upd H a o) h':=fun b u e=>by
 have hn:=x.fresh hp
 by_cases hb:b=a
 .subst hb;rw[zbu] at e;cases e;exact new
 .rw[zaD hb] at e;exact (x b u e).stay (fun c v _ q=>k c v q) (fun c q=>by rw[zaD (zax q hn)];exact q) fun c xs q=>by rw[zaD (zax q hn)];exact q
end
def Rd (H:Hp) (a:Addr) (u:HO):Prop:=H a=some u\/∃o,H a=some (.frz o u)
theorem Rd.ok {P:Program} {w:World} {H:Hp} {h:Heap} {a:Addr} {u:HO} (r:Rd H a u) (x:HOk P w H h):ObjOk P w H h a u:=by
 rcases r with r | ⟨o,r⟩
 .exact x a u r
 .obtain ⟨_,q⟩:=x a _ r;exact q
def Mut:Option HO->Prop
 | some (.lst _)=>True
 | some (.dK _)=>True
 | some (.dT _)=>True
 | some (.set _ _)=>True
 | some (.ins _ _ _)=>True
 | some (.ext _)=>True
 | _=>False
section
variable {P:Program} {w:World} {H:Hp} {h h':Heap} {x e:Addr} {o':HO}
theorem HOk.write (ok:HOk P w H h) (mu:Mut (H x)) (he:e=x\/H e=some (.own x)) (k:∀b u,b≠e->h.get? b=some u->h'.get? b=some u) (heo:∃u,h'.get? e=some u)
  (new:ObjOk P w (upd H x o') h' x o'):HOk P w (upd H x o') h':=fun b u q=>by
 have nown:∀c y,H c=some (.own y)->c≠x:=fun c y r z=>by subst z;rw[r] at mu;exact mu
 have ntup:∀c xs,H c=some (.tup xs)->c≠x:=fun c xs r z=>by subst z;rw[r] at mu;exact mu
 by_cases hb:b=x
 .subst hb;rw[zbu] at q;cases q;exact new
 .rw[zaD hb] at q
  by_cases hbe:b=e
  .have q':H b=some (.own x):=by
    rcases he with z | z
    .exact absurd (hbe.trans z) hb
    .rw[hbe];exact z
   rw[q] at q';cases q';obtain ⟨v,hv⟩:=heo;exact ⟨v,by rw[hbe];exact hv⟩
  .refine (ok b u q).stay (fun c v hc r=>k c v ?_ r) (fun c r=>by rw[zaD (nown c b r)];exact r) fun c xs r=>by rw[zaD (ntup c xs r)];exact r
   rcases hc with rfl | hc
   .exact hbe
   .rintro rfl
    rcases he with z | z
    .exact nown c b hc z
    .rw[hc] at z;cases z;exact hb rfl
end
structure Un (fs ex:List Addr) (H H':Hp) (h h':Heap):Prop where
 keep:∀b o,h.get? b=some o->H b=none->b∉fs->b∉ex->h'.get? b=some o
 slot:∀b o,h.get? b=some o->H b=none->b∈fs->b∉ex->∃sl,h'.get? b=some { o with slots:=sl }
 free:∀b o,h.get? b=some o->H b=none->b∉ex->H' b=none
 there:∀b o,h.get? b=some o->b∉ex->∃o',h'.get? b=some o'
 tups:∀b xs,H b=some (.tup xs)->H' b=some (.tup xs)
 frzs:∀b o u,H b=some (.frz o u)->H' b=some (.frz o u)
 tbls:∀b ps,H b=some (.tbl ps)->∃more,H' b=some (.tbl (ps++more))
section
variable {fs fs' ex ex':List Addr} {H H1 H2:Hp} {h h1 h2 h':Heap} {a x e:Addr} {o:HO}
theorem Un.any (u:Un fs ex H H1 h h1) {b:Addr} {ob:Obj} (q:h.get? b=some ob) (n:H b=none) (hx:b∉ex):∃sl,h1.get? b=some { ob with slots:=sl }:=by
 by_cases hb:b∈fs
 .exact u.slot b ob q n hb hx
 .exact ⟨ob.slots,u.keep b ob q n hb hx⟩
theorem Un.trans (a:Un fs ex H H1 h h1) (b:Un fs ex H1 H2 h1 h2):Un fs ex H H2 h h2 where
 keep:=fun c ob q n hc hx=>b.keep c ob (a.keep c ob q n hc hx) (a.free c ob q n hx) hc hx
 slot:=fun c ob q n hc hx=>by
  obtain ⟨sl,e1⟩:=a.slot c ob q n hc hx;obtain ⟨sl',e2⟩:=b.slot c _ e1 (a.free c ob q n hx) hc hx;exact ⟨sl',e2⟩
 free:=fun c ob q n hx=>by
  obtain ⟨o',e1⟩:=a.there c ob q hx;exact b.free c o' e1 (a.free c ob q n hx) hx
 there:=fun c ob q hx=>by
  obtain ⟨o',e1⟩:=a.there c ob q hx;exact b.there c o' e1 hx
 tups:=fun c xs q=>b.tups c xs (a.tups c xs q)
 frzs:=fun c ob xs q=>b.frzs c ob xs (a.frzs c ob xs q)
 tbls:=fun c ps q=>by
  obtain ⟨m1,e1⟩:=a.tbls c ps q;obtain ⟨m2,e2⟩:=b.tbls c _ e1;exact ⟨m1++m2,by rw[e2,Array.append_assoc]⟩
theorem Un.kept (k:∀b u,h.get? b=some u->h'.get? b=some u):Un fs ex H H h h':=
 ⟨fun b ob q _ _ _=>k b ob q,fun b ob q _ _ _=>⟨ob.slots,k b ob q⟩,fun _ _ _ n _=>n,fun b ob q _=>⟨ob,k b ob q⟩,fun _ _ q=>q,fun _ _ _ q=>q,fun _ ps q=>⟨#[],by rw[q];simp⟩⟩
theorem Un.refl:Un fs ex H H h h:=Un.kept fun _ _ q=>q
theorem Un.laid (k:∀b u,h.get? b=some u->h'.get? b=some u) (hp:h.objs.size<=a) (hn:H a=none):Un fs ex H (upd H a o) h h' where
 keep:=fun b u q _ _ _=>k b u q
 slot:=fun b u q _ _ _=>⟨u.slots,k b u q⟩
 free:=fun b u q n _=>by rw[zaD (Nat.ne_of_lt (Nat.lt_of_lt_of_le (Heap.lt_size q) hp))];exact n
 there:=fun b u q _=>⟨u,k b u q⟩
 tups:=fun b xs q=>by rw[zaD (zax q hn)];exact q
 frzs:=fun b u xs q=>by rw[zaD (zax q hn)];exact q
 tbls:=fun b ps q=>⟨#[],by rw[zaD (zax q hn),q];simp⟩
theorem Un.write (mu:Mut (H x)) (he:e=x\/H e=some (.own x)) (k:∀b u,b≠e->h.get? b=some u->h'.get? b=some u) (heo:∃u,h'.get? e=some u):Un fs ex H (upd H x o) h h':=by
 have hx:∀b,H b=none->b≠x:=fun b n z=>by subst z;rw[n] at mu;exact mu
 have hb:∀b,H b=none->b≠e:=fun b n z=>by
  subst z;rcases he with r | r
  .exact hx b n r
  .rw[n] at r;cases r
 have hm:∀b u,H b=some u->¬Mut (some u)->b≠x:=fun b u q nm z=>by subst z;rw[q] at mu;exact nm mu
 refine ⟨fun b u q n _ _=>k b u (hb b n) q,fun b u q n _ _=>⟨u.slots,k b u (hb b n) q⟩,fun b u q n _=>by rw[zaD (hx b n)];exact n,fun b u q _=>?_,
  fun b xs q=>by rw[zaD (hm b _ q fun z=>z)];exact q,fun b u xs q=>by rw[zaD (hm b _ q fun z=>z)];exact q,fun b ps q=>⟨#[],by rw[zaD (hm b _ q fun z=>z),q];simp⟩⟩
 by_cases hbe:b=e
 .subst hbe;exact heo
 .exact ⟨u,k b u hbe q⟩
theorem Un.mono (u:Un fs ex H H1 h h1) (hs:∀b∈fs,b∈fs') (hx:∀b∈ex,b∈ex'):Un fs' ex' H H1 h h1:=
 ⟨fun b ob q n hb he=>u.keep b ob q n (fun z=>hb (hs b z)) fun z=>he (hx b z),fun _ _ q n _ he=>u.any q n fun z=>he (hx _ z),fun b ob q n he=>u.free b ob q n fun z=>he (hx b z),fun b ob q he=>u.there b ob q fun z=>he (hx b z),u.tups,u.frzs,u.tbls⟩
end
def trk (h:Heap) (H:Hp):List Addr:=(List.range h.objs.size).filter fun a=>(H a).isSome
def hidT (h:Heap) (H:Hp):Heap:=PySem.W.hideAll h (trk h H)
theorem zmS (h:Heap) (H:Hp):(hidT h H).objs.size=h.objs.size:=PySem.W.hideAll_size _ _
theorem znW {h:Heap} {H:Hp} {b:Addr} {o:Obj} (e:h.get? b=some o) (n:H b=none):(hidT h H).get? b=some o:=
 PySem.W.hideAll_get _ e fun hm=>by
  have q:(H b).isSome=true:=(List.mem_filter.mp hm).2;rw[n] at q;simp at q
theorem zqu {h:Heap} {H:Hp} {b:Addr} {o:Obj} (e:(hidT h H).get? b=some o):h.get? b=some o/\H b=none:=by
 have e':h.get? b=some o:=PySem.W.of_hideAll (trk h H) e;refine ⟨e', ?_⟩
 cases q:H b with
 | none=>rfl
 | some x=>
  have hm:b∈trk h H:=List.mem_filter.mpr ⟨List.mem_range.mpr (Heap.lt_size e'),by simp[q]⟩;have z:(hidT h H).get? b=none:=PySem.W.hideAll_none (trk h H) hm;rw[z] at e;cases e
structure Mod (K:PySem.W.Frag) (mg:Str->Option Value) (base:Heap):Prop where
 kin:K.In base
 glob:base.Ns mainGlobals mg
 blt:∃mb,base.Ns builtinsNs mb/\∀x:Str,x≠"__name__"->mb x=bootBuiltins x
 nolimit:base.NoLimit
structure Cx where
 prog:Program
 w:World
 K:PySem.W.Frag
 mg:Str->Option Value
 base:Heap
 A:Around
 N:List Str
 s₀:Shared
 H₀:Hp
 env:Env
 outer:List Env
 stack:List Env
 ex:List Addr
 fn:Str->Bool
 calm:Bool
 pn:List 010
 xe:Value->Shared->Prop
def frs (l:List Env):List Addr:=l.filterMap (·.frame)
abbrev Cx.fs (X:Cx):List Addr:=frs X.outer
def Vis (sc:Scope) (x:Str):Prop:=sc.names.lookup x=some .local\/sc.names.lookup x=some .cell\/sc.names.lookup x=some .free
def Loc (sc:Scope) (x:Str):Prop:=sc.names.lookup x=some .local\/sc.names.lookup x=some .cell
def Look (env:Env) (h:Heap) (m:Str->Option Value) (x:Str) (u:Value):Prop:=
 (env.kindOf x=some .local/\m x=some u)\/((env.kindOf x=some .cell\/env.kindOf x=some .free)/\∃c,env.cells.lookup x=some c/\h.IsCell c (some u))
structure Cx.Ok (X:Cx):Prop where
 mod:Mod X.K X.mg X.base
 kind:X.env.scope.kind=.function
 glob:X.env.globals=mainGlobals
 blt:X.env.builtins=builtinsNs
 above:X.s₀.heap.objs.size<=X.env.locals
 inj:∀x y c,X.env.cells.lookup x=some c->X.env.cells.lookup y=some c->x=y
 has:∀x,(X.env.kindOf x=some .cell\/X.env.kindOf x=some .free)->∃c,X.env.cells.lookup x=some c
 cab:∀x c,X.fn x=true->X.env.cells.lookup x=some c->X.s₀.heap.objs.size<=c
 hd:X.calm=true->X.A.handled=none
 frames:X.A.frames=some X.stack
 stk:X.stack=X.outer\/(X.stack=X.env::X.outer/\X.env.frame=some X.env.locals)
 exf:∀b∈X.ex,b≠X.env.locals/\∀x c,X.env.cells.lookup x=some c->c≠b
 bs:∀b o,X.base.get? b=some o->X.s₀.heap.get? b=some o/\X.H₀ b=none
 bsz:X.base.objs.size<=X.s₀.heap.objs.size
 noex:∀b o,X.base.get? b=some o->b∉X.ex
 exfs:∀b∈X.ex,b∉X.fs
 funs:X.s₀.heap.FunFrames X.base X.outer
 frf:∀b∈X.fs,X.H₀ b=none
structure Inv (X:Cx) (pins:List (Addr×Obj)) (σ:List (Option V)) (H:Hp) (s:Shared):Prop where
 ok:X.Ok
 os:s.os=X.s₀.os
 bare:AllBare s.gens
 base:Un X.fs X.ex X.H₀ H X.s₀.heap s.heap
 loc:∃m,s.heap.Ns X.env.locals m/\∀(i:Nat) (x:Str) (v:V),X.N[i]? = some x->σ[i]? = some (some v)->Vis X.env.scope x->∃u,RelV v u/\Look X.env s.heap m x u
 cell:∀x c,X.env.cells.lookup x=some c->∃v,s.heap.IsCell c v
 free:H X.env.locals=none
 freeC:∀x c,X.env.cells.lookup x=some c->H c=none
 pin:∀p∈X.pn++pins,s.heap.get? p.1=some p.2/\H p.1=none/\p.1≠X.env.locals/\p.1∉X.fs/\∀v,p.2.data≠.cell v
 hok:HOk X.prog X.w H s.heap
 len:σ.length=X.N.length
section
variable {X:Cx} {pins:List (Addr×Obj)} {σ:List (Option V)} {H H':Hp} {s:Shared} {h':Heap}
theorem Cx.Ok.nofr (ok:X.Ok) {b:Addr} {o:Obj} (e:X.base.get? b=some o):b∉X.fs:=fun hb=>by
 have:=(ok.funs.mem hb).1
 rw[e] at this;cases this
theorem Inv.bs (I:Inv X pins σ H s):∀b o,X.base.get? b=some o->s.heap.get? b=some o/\H b=none:=fun b o e=>
 ⟨I.base.keep b o (I.ok.bs b o e).1 (I.ok.bs b o e).2 (I.ok.nofr e) (I.ok.noex b o e),I.base.free b o (I.ok.bs b o e).1 (I.ok.bs b o e).2 (I.ok.noex b o e)⟩
theorem Inv.bk (I:Inv X pins σ H s):∀b o,X.base.get? b=some o->s.heap.get? b=some o:=fun b o e=>(I.bs b o e).1
theorem Inv.mod (I:Inv X pins σ H s):Mod X.K X.mg X.base:=I.ok.mod
theorem Inv.kIn (I:Inv X pins σ H s):X.K.In s.heap:=I.ok.mod.kin.keeps I.bk
theorem Inv.lt (I:Inv X pins σ H s):X.env.locals < s.heap.objs.size:=let ⟨_,hn,_⟩:=I.loc;hn.lt
theorem Inv.sz (I:Inv X pins σ H s):X.s₀.heap.objs.size<=s.heap.objs.size:=Nat.le_trans I.ok.above (Nat.le_of_lt I.lt)
theorem Inv.nofs (I:Inv X pins σ H s) {a:Addr} (h:s.heap.objs.size<=a):a∉X.fs:=fun hb=>by
 obtain ⟨_,o,ho,_⟩:=I.ok.funs.mem hb;exact absurd (Nat.lt_of_lt_of_le (Heap.lt_size ho) (Nat.le_trans I.sz h)) (Nat.lt_irrefl _)
theorem Inv.cne (I:Inv X pins σ H s):∀x c,X.env.cells.lookup x=some c->c≠X.env.locals:=fun x c e z=>by
 obtain ⟨v,o,ho,hd⟩:=I.cell x c e;obtain ⟨m,⟨o',es,ep,ho',hd',_⟩,_⟩:=I.loc;rw[z,ho'] at ho;cases ho;rw[hd'] at hd;cases hd
theorem Inv.funs (I:Inv X pins σ H s):s.heap.FunFrames X.base X.outer:=by
 have all:∀(l:List Env),(∀b∈frs l,b∈X.fs)->X.s₀.heap.FunFrames X.base l->s.heap.FunFrames X.base l:=by
  intro l
  induction l with
  | nil=>intro _ _;trivial
  | cons env r ih=>
   intro hs hl;obtain ⟨hk,⟨L,o,hf,hn,ho,hd⟩,hr⟩:=hl;have hL:L∈X.fs:=hs L (by unfold frs;rw[List.filterMap_cons,hf];exact List.mem_cons_self);obtain ⟨sl,e⟩:=I.base.slot L o ho (I.ok.frf L hL) hL fun z=>I.ok.exfs L z hL
   exact ⟨hk,⟨L,_,hf,hn,e,hd⟩,ih (fun b hb=>hs b (by unfold frs;rw[List.filterMap_cons,hf];exact List.mem_cons_of_mem _ hb)) hr⟩
 exact all X.outer (fun _ hb=>hb) I.ok.funs
theorem Inv.stack (I:Inv X pins σ H s):s.heap.FunFrames X.base X.stack:=by
 rcases I.ok.stk with e | ⟨e,hf⟩
 .rw[e];exact I.funs
 .rw[e];obtain ⟨m,hn,_⟩:=I.loc;refine .cons (by rw[I.ok.kind];decide) hf hn ?_ I.funs;exact Heap.get?_none_of_le (Nat.le_trans I.ok.bsz I.ok.above)
theorem Inv.stkSub (I:Inv X pins σ H s):∀b∈frs X.stack,b∈X.env.locals::X.fs:=fun b hb=>by
 rcases I.ok.stk with e | ⟨e,hf⟩
 .rw[e] at hb;exact List.mem_cons_of_mem _ hb
 .rw[e] at hb;unfold frs at hb;rw[List.filterMap_cons,hf] at hb;exact hb
theorem Inv.stkFree (I:Inv X pins σ H s):∀b∈frs X.stack,H b=none:=fun b hb=>by
 rcases List.mem_cons.mp (I.stkSub b hb) with e | hb
 .rw[e];exact I.free
 .obtain ⟨_,o,ho,_⟩:=I.ok.funs.mem hb;exact I.base.free b o ho (I.ok.frf b hb) fun z=>I.ok.exfs b z hb
theorem Inv.step {g':Array GenState} {t':Nat} {d':Drawn} {ch:List Addr} (I:Inv X pins σ H s)
  (hch:∀b∈ch,097/\b≠X.env.locals/\070/\∀p∈X.pn++pins,p.1≠b)
  (keep:∀b o,b≠X.env.locals->b∉X.fs->b∉ch->s.heap.get? b=some o->H b=none->h'.get? b=some o)
  (slot:∀b o,b≠X.env.locals->b∈X.fs->b∉ch->s.heap.get? b=some o->H b=none->∃sl,h'.get? b=some { o with slots:=sl }) (free:∀b o,b∉ch->s.heap.get? b=some o->H b=none->H' b=none)
  (there:∀b o,b∉ch->s.heap.get? b=some o->∃o',h'.get? b=some o')
  (tups:∀b xs,H b=some (.tup xs)->H' b=some (.tup xs)) (frzs:∀b o u,H b=some (.frz o u)->H' b=some (.frz o u)) (tbls:∀b ps,H b=some (.tbl ps)->∃more,H' b=some (.tbl (ps++more)))
  (ns:∀m,s.heap.Ns X.env.locals m->h'.Ns X.env.locals m) (hok:HOk X.prog X.w H' h') (hg:AllBare g') :
  Inv X pins σ H' { s with heap:=h',gens:=g',drawn:=d',toks:=t' }:=by
 have neL:∀b o,X.s₀.heap.get? b=some o->b≠X.env.locals:=fun b o e=>Nat.ne_of_lt (Nat.lt_of_lt_of_le (Heap.lt_size e) I.ok.above)
 have neC:∀b o,X.s₀.heap.get? b=some o->b∉X.ex->b∉ch:=fun b o e hx hb=>by
  rcases (hch b hb).1 with z | z
  .exact hx z
  .exact absurd (Nat.lt_of_lt_of_le (Heap.lt_size e) z) (Nat.lt_irrefl _)
 have cellK:∀x c,X.env.cells.lookup x=some c->∀v,s.heap.IsCell c v->h'.IsCell c v:=fun x c e v hx__=>by
  obtain ⟨o,ho,hd⟩:=hx__;have nch:c∉ch:=fun z=>(hch c z).2.2.1 x c e rfl
  by_cases hc:c∈X.fs
  .obtain ⟨sl,q⟩:=slot c o (I.cne x c e) hc nch ho (I.freeC x c e);exact ⟨_,q,hd⟩
  .exact ⟨o,keep c o (I.cne x c e) hc nch ho (I.freeC x c e),hd⟩
 refine ⟨I.ok,I.os,hg,⟨fun b o e n hb hx=>?_,fun b o e n hb hx=>?_,fun b o e n hx=>?_,fun b o e hx=>?_,fun b xs e=>tups b xs (I.base.tups b xs e),fun b o xs e=>frzs b o xs (I.base.frzs b o xs e),fun b ps e=>?_⟩, ?_,fun x c e=>?_, ?_,fun x c e=>?_,fun p hp=>?_,hok,I.len⟩
 .exact keep b o (neL b o e) hb (neC b o e hx) (I.base.keep b o e n hb hx) (I.base.free b o e n hx)
 .obtain ⟨sl,e1⟩:=I.base.slot b o e n hb hx;obtain ⟨sl',e2⟩:=slot b _ (neL b o e) hb (neC b o e hx) e1 (I.base.free b o e n hx);exact ⟨sl',e2⟩
 .obtain ⟨o',e1⟩:=I.base.there b o e hx;exact free b o' (neC b o e hx) e1 (I.base.free b o e n hx)
 .obtain ⟨o',e1⟩:=I.base.there b o e hx;exact there b o' (neC b o e hx) e1
 .obtain ⟨m1,e1⟩:=I.base.tbls b ps e;obtain ⟨m2,e2⟩:=tbls b _ e1;exact ⟨m1++m2,by rw[e2,Array.append_assoc]⟩
 .obtain ⟨m,hn,hl⟩:=I.loc;refine ⟨m,ns m hn,fun i x v e1 e2 e3=>?_⟩;obtain ⟨u,r,l⟩:=hl i x v e1 e2 e3;refine ⟨u,r, ?_⟩;rcases l with l | ⟨k,c,e,z⟩
  .exact .inl l
  .exact .inr ⟨k,c,e,cellK x c e _ z⟩
 .obtain ⟨v,z⟩:=I.cell x c e;exact ⟨v,cellK x c e v z⟩
 .obtain ⟨m,⟨o,_,_,ho,_⟩,_⟩:=I.loc;exact free _ o (fun z=>(hch _ z).2.1 rfl) ho I.free
 .obtain ⟨v,o,ho,hd⟩:=I.cell x c e;exact free c o (fun z=>(hch c z).2.2.1 x c e rfl) ho (I.freeC x c e)
 .obtain ⟨e,n,ne,nf,d⟩:=I.pin p hp;have nch:p.1∉ch:=fun z=>(hch p.1 z).2.2.2 p hp rfl
  exact ⟨keep p.1 p.2 ne nf nch e n,free p.1 p.2 nch e n,ne,nf,d⟩
theorem Inv.un {t':Nat} (I:Inv X pins σ H s) (u:Un X.fs [] H H' s.heap h') (hok:HOk X.prog X.w H' h'):Inv X pins σ H' { s with heap:=h',toks:=t' }:=by
 obtain ⟨m,⟨o,es,ep,ho,r⟩,_⟩:=id I.loc;obtain ⟨sl,hL⟩:=u.any ho I.free (by simp);exact I.step (g':=s.gens) (d':=s.drawn) (ch:=[]) (fun _ z=>nomatch z) (fun b o _ hb _ e n=>u.keep b o e n hb (by simp)) (fun b o _ hb _ e n=>u.slot b o e n hb (by simp)) (fun b o _ e n=>u.free b o e n (by simp)) (fun b o _ e=>u.there b o e (by simp)) u.tups u.frzs u.tbls (fun m' hm=>by
  obtain ⟨o',es',ep',ho',r'⟩:=hm;rw[ho] at ho';cases ho';exact ⟨_,es',ep',hL,r'⟩) hok I.bare
theorem Inv.call {g':Array GenState} {t':Nat} {d':Drawn} {ch:List Addr} (I:Inv X pins σ H s) (u:Un (frs X.stack) ch H H' s.heap h') (hok:HOk X.prog X.w H' h') (hg:AllBare g')
  (hch:∀b∈ch,097/\b≠X.env.locals/\070/\∀p∈X.pn++pins,p.1≠b) :
  Inv X pins σ H' { s with heap:=h',gens:=g',drawn:=d',toks:=t' }:=by
 obtain ⟨m,⟨o,es,ep,ho,r⟩,_⟩:=id I.loc;obtain ⟨sl,hL⟩:=u.any ho I.free fun z=>(hch _ z).2.1 rfl
 exact I.step (ch:=ch) hch (fun b o hL hb hc e n=>u.keep b o e n (fun z=>(List.mem_cons.mp (I.stkSub b z)).elim hL hb) hc) (fun b o _ _ hc e n=>u.any e n hc) (fun b o hc e n=>u.free b o e n hc) (fun b o hc e=>u.there b o e hc) u.tups u.frzs u.tbls (fun m' hm=>by
  obtain ⟨o',es',ep',ho',r'⟩:=hm;rw[ho] at ho';cases ho';exact ⟨_,es',ep',hL,r'⟩) hok hg
theorem Inv.turned {t':Nat} {it:Addr} (I:Inv X pins σ H s) (k:∀b o,b≠it->s.heap.get? b=some o->h'.get? b=some o) (hn:H it=none) (hL:it≠X.env.locals)
  (h1:it∈X.ex\/X.s₀.heap.objs.size<=it) (h2:∀x c,X.env.cells.lookup x=some c->c≠it) (h3:∀p∈X.pn++pins,p.1≠it):Inv X pins σ H { s with heap:=h',toks:=t' }:=by
 have nit:∀b u,H b=some u->b≠it:=fun b u e z=>by rw[z,hn] at e;cases e
 refine I.step (g':=s.gens) (d':=s.drawn) (ch:=[it]) (fun b hb=>?_) (fun b o _ _ hc e _=>k b o (fun z=>hc (by simp[z])) e) (fun b o _ _ hc e _=>⟨o.slots,k b o (fun z=>hc (by simp[z])) e⟩) (fun _ _ _ _ n=>n)
  (fun b o hc e=>⟨o,k b o (fun z=>hc (by simp[z])) e⟩) (fun _ _ e=>e) (fun _ _ _ e=>e) (fun b ps e=>⟨#[],by rw[e];simp⟩) (fun m hm=>?_) (fun b u e=>?_) I.bare
 .have e:b=it:=by simpa using hb
  subst e;exact ⟨h1,hL,h2,h3⟩
 .obtain ⟨o,es,ep,ho,r⟩:=hm;exact ⟨o,es,ep,k _ o (Ne.symm hL) ho,r⟩
 .refine (I.hok b u e).stay (fun c v hc q=>k c v ?_ q) (fun _ q=>q) fun _ _ q=>q
  rcases hc with z | z
  .rw[z];exact nit b u e
  .exact nit c _ z
theorem Inv.tok (I:Inv X pins σ H s) (t:Nat):Inv X pins σ H { s with toks:=t }:=I.un (h':=s.heap) (t':=t) Un.refl I.hok
theorem Inv.kept {t':Nat} (I:Inv X pins σ H s) (k:∀b u,s.heap.get? b=some u->h'.get? b=some u):Inv X pins σ H { s with heap:=h',toks:=t' }:=I.un (Un.kept k) (I.hok.kept k)
theorem Inv.laid {a:Addr} {o:HO} {t':Nat} (I:Inv X pins σ H s) (k:∀b u,s.heap.get? b=some u->h'.get? b=some u) (hp:s.heap.objs.size<=a) (new:ObjOk X.prog X.w (upd H a o) h' a o) :
  Inv X pins σ (upd H a o) { s with heap:=h',toks:=t' }:=I.un (Un.laid k hp (I.hok.fresh hp)) (I.hok.laid k hp new)
theorem Inv.write {x e:Addr} {o:HO} {t':Nat} (I:Inv X pins σ H s) (mu:Mut (H x)) (he:e=x\/H e=some (.own x)) (k:∀b u,b≠e->s.heap.get? b=some u->h'.get? b=some u) (heo:∃u,h'.get? e=some u)
  (new:ObjOk X.prog X.w (upd H x o) h' x o):Inv X pins σ (upd H x o) { s with heap:=h',toks:=t' }:=I.un (Un.write mu he k heo) (I.hok.write mu he k heo new)
theorem Inv.weak {σ':List (Option V)} (I:Inv X pins σ H s) (hl:σ'.length=σ.length) (w:∀(i:Nat) v,σ'[i]? = some (some v)->σ[i]? = some (some v)):Inv X pins σ' H s:=
 ⟨I.ok,I.os,I.bare,I.base,let ⟨m,hn,hl'⟩:=I.loc;⟨m,hn,fun i x v e1 e2 e3=>hl' i x v e1 (w i v e2) e3⟩,I.cell,I.free,I.freeC,I.pin,I.hok,hl.trans I.len⟩
theorem Inv.pins_of {pins':List 010} (I:Inv X pins σ H s) (h:∀p∈pins',s.heap.get? p.1=some p.2/\H p.1=none/\p.1≠X.env.locals/\p.1∉X.fs/\∀v,p.2.data≠.cell v):Inv X pins' σ H s:=
 ⟨I.ok,I.os,I.bare,I.base,I.loc,I.cell,I.free,I.freeC,fun p hp=>(List.mem_append.mp hp).elim (fun z=>I.pin p (List.mem_append_left _ z)) (h p),I.hok,I.len⟩
theorem zkh {N:List Str} (hN:N.Nodup) {i j:Nat} {x:Str} (a:N[i]? = some x) (b:N[j]? = some x):i=j:=by
 obtain ⟨h1,e1⟩:=List.getElem?_eq_some_iff.mp a;obtain ⟨h2,e2⟩:=List.getElem?_eq_some_iff.mp b;exact (List.getElem_inj hN).mp (e1.trans e2.symm)
theorem zia {M:Model} {A:Around} {E:Value->Shared->Prop} {i:Nat} {x:Str} {v:V} {u:Value} {Q:Unit->Shared->Prop} (I:Inv X pins σ H s) (hN:X.N.Nodup) (hi:X.N[i]? = some x) (hx:Loc X.env.scope x) (r:RelV v u)
  (h:∀s',Inv X pins (σ.set i (some v)) H s'->(∃a,Heap.SameBut a s.heap s'.heap/\(a=X.env.locals\/X.env.cells.lookup x=some a))->Q () s') (hf:X.fn x=true\/X.env.scope.names.lookup x=some .local:=by first | exact .inl rfl | exact .inr rfl | assumption):wpAny M A (storeName X.env x u) Q E s:=by
 obtain ⟨m,hn,hl⟩:=id I.loc;have hcls:(X.env.scope.kind==.class || (X.env.scope.kind==.module&&X.env.locals != X.env.globals))=false:=by rw[I.ok.kind];rfl
 have hiσ:i < σ.length:=by rw[I.len];exact (List.getElem?_eq_some_iff.mp hi).1
 have cne:=I.cne;have tracked:∀{a:Addr} {h':Heap},(∃o,s.heap.get? a=some o/\H a=none)->Heap.SameBut a s.heap h'->HOk X.prog X.w H h':=fun {a h'} ha hs b ob e=>by
  obtain ⟨_,_,hfree⟩:=ha;refine (I.hok b ob e).stay (fun c w' hc q=>(hs.2 c ?_).trans q) (fun _ q=>q) fun _ _ q=>q
  rintro rfl
  rcases hc with rfl | hc
  .rw[hfree] at e;cases e
  .rw[hfree] at hc;cases hc
 rcases hx with hk | hk
 .refine wpAny_storeName_local hk hn (fun h' hn' hs=>?_) hcls;obtain ⟨oL,_,_,hoL,_⟩:=id hn;refine h _ ⟨I.ok,I.os,I.bare,⟨fun b o e n hb hx=>?_,fun b o e n hb hx=>?_,I.base.free,fun b o e hx=>?_,I.base.tups,I.base.frzs,I.base.tbls⟩,⟨_,hn',fun j y v' e1 e2 e3=>?_⟩,fun y c e=>?_,I.free,I.freeC,fun p hp=>?_,tracked ⟨oL,hoL,I.free⟩ hs,by simpa using I.len⟩ ⟨_,hs,.inl rfl⟩
  .exact (hs.2 b (Nat.ne_of_lt (Nat.lt_of_lt_of_le (Heap.lt_size e) I.ok.above))).trans (I.base.keep b o e n hb hx)
  .obtain ⟨sl,e1⟩:=I.base.slot b o e n hb hx;exact ⟨sl,(hs.2 b (Nat.ne_of_lt (Nat.lt_of_lt_of_le (Heap.lt_size e) I.ok.above))).trans e1⟩
  .obtain ⟨o',e1⟩:=I.base.there b o e hx;exact ⟨o',(hs.2 b (Nat.ne_of_lt (Nat.lt_of_lt_of_le (Heap.lt_size e) I.ok.above))).trans e1⟩
  .by_cases hj:j=i
   .subst hj;rw[hi] at e1;cases e1;rw[List.getElem?_set_self hiσ] at e2;cases e2;exact ⟨u,r,.inl ⟨hk,by simp⟩⟩
   .rw[List.getElem?_set_ne (Ne.symm hj)] at e2;obtain ⟨u',r',q⟩:=hl j y v' e1 e2 e3;refine ⟨u',r', ?_⟩;rcases q with ⟨k,e⟩ | ⟨k,c,e,z⟩
    .refine .inl ⟨k, ?_⟩
     have:y≠x:=fun e=>hj (zkh hN e1 (e ▸ hi))
     simp[this,e]
    .exact .inr ⟨k,c,e,z.sameBut hs (cne y c e)⟩
  .obtain ⟨w',z⟩:=I.cell y c e;exact ⟨w',z.sameBut hs (cne y c e)⟩
  .obtain ⟨e,n,ne,nf,d⟩:=I.pin p hp;exact ⟨(hs.2 p.1 ne).trans e,n,ne,nf,d⟩
 .have hfn:X.fn x=true:=by
   rcases hf with z | z
   .exact z
   .rw[z] at hk;cases hk
  obtain ⟨c,hc⟩:=I.ok.has x (.inl hk);obtain ⟨w',z⟩:=I.cell x c hc;refine wpAny_storeName_cell I.ok.kind hk hc z (fun h' hc' hs=>?_);obtain ⟨oc,hoc,hocd⟩:=id z;refine h { s with heap:=h' } ⟨I.ok,I.os,I.bare,⟨fun b o e n hb hx=>?_,fun b o e n hb hx=>?_,I.base.free,fun b o e hx=>?_,I.base.tups,I.base.frzs,I.base.tbls⟩,⟨m,hn.sameBut hs (Ne.symm (cne x c hc)),fun j y v' e1 e2 e3=>?_⟩,fun y c' e=>?_,I.free,I.freeC,fun p hp=>?_,tracked ⟨oc,hoc,I.freeC x c hc⟩ hs,by simpa using I.len⟩ ⟨c,hs,.inr hc⟩
  .exact (hs.2 b 0015).trans (I.base.keep b o e n hb hx)
  .obtain ⟨sl,e1⟩:=I.base.slot b o e n hb hx;exact ⟨sl,(hs.2 b 0015).trans e1⟩
  .obtain ⟨o',e1⟩:=I.base.there b o e hx;exact ⟨o',(hs.2 b 0015).trans e1⟩
  .by_cases hj:j=i
   .subst hj;rw[hi] at e1;cases e1;rw[List.getElem?_set_self hiσ] at e2;cases e2;exact ⟨u,r,.inr ⟨.inl hk,c,hc,hc'⟩⟩
   .rw[List.getElem?_set_ne (Ne.symm hj)] at e2;obtain ⟨u',r',q⟩:=hl j y v' e1 e2 e3;refine ⟨u',r', ?_⟩;rcases q with q | ⟨k,c',e,z'⟩
    .exact .inl q
    .refine .inr ⟨k,c',e,z'.sameBut hs ?_⟩
     rintro rfl
     exact hj (zkh hN e1 (I.ok.inj _ _ _ e hc ▸ hi))
  .by_cases hcc:c'=c
   .subst hcc;exact ⟨_,hc'⟩
   .obtain ⟨w2,z2⟩:=I.cell y c' e;exact ⟨w2,z2.sameBut hs hcc⟩
  .obtain ⟨e,n,ne,nf,d⟩:=I.pin p hp;refine ⟨(hs.2 p.1 ?_).trans e,n,ne,nf,d⟩;intro q;rw[q,hoc] at e;have q':oc=p.2:=Option.some.inj e;exact d w' (by rw[<-q'];exact hocd)
theorem zhp {M:Model} {A:Around} {E:Value->Shared->Prop} {i:Nat} {x:Str} {v:V} {u:Value} {Q:Unit->Shared->Prop} (I:Inv X pins σ H s) (hN:X.N.Nodup) (hi:X.N[i]? = some x) (hx:Loc X.env.scope x) (r:RelV v u)
  (h:∀s',Inv X pins (σ.set i (some v)) H s'->Q () s') (hf:X.fn x=true\/X.env.scope.names.lookup x=some .local:=by first | exact .inl rfl | exact .inr rfl | assumption):wpAny M A (storeName X.env x u) Q E s:=
 zia I hN hi hx r (fun s' I' _=>h s' I') hf
theorem Inv.call' {s':Shared} {ch:List Addr} (I:Inv X pins σ H s) (ho:s'.os=s.os) (u:Un (frs X.stack) ch H H' s.heap s'.heap) (hok:HOk X.prog X.w H' s'.heap) (hg:AllBare s'.gens)
  (hch:∀b∈ch,097/\b≠X.env.locals/\070/\∀p∈X.pn++pins,p.1≠b):Inv X pins σ H' s':=by
 obtain ⟨h',g',d',t',o'⟩:=s';have e:o'=s.os:=ho;subst e;exact I.call (g':=g') (t':=t') (d':=d') u hok hg hch
end
abbrev XK:=Value->Option Addr->Hp->Prop
abbrev St:=List (Option V)
abbrev VK:=V->Hp->Prop
abbrev TE:=St->Hp->VK->Prop
abbrev TT:=St->Hp->(Bool->Hp->Prop)->Prop
abbrev TA:=St->Hp->(List V->Hp->Prop)->Prop
structure Ends where
 nx:St->Hp->Prop
 rt:VK
 bk:St->Hp->Prop:=fun _ _=>False
 ct:St->Hp->Prop:=fun _ _=>False
abbrev TS:=Ends->St->Hp->Prop
def EP (X:Cx) (pins:List 010) (σ:St) (Q:VK) (u:Value) (s':Shared):Prop:=∃v H',Inv X pins σ H' s'/\RelV v u/\Q v H'
def TP (X:Cx) (pins:List 010) (σ:St) (Q:Bool->Hp->Prop) (b:Bool) (s':Shared):Prop:=∃H',Inv X pins σ H' s'/\Q b H'
def AP (X:Cx) (pins:List 010) (σ:St) (Q:List V->Hp->Prop) (us:List Value) (s':Shared):Prop:=∃vs H',Inv X pins σ H' s'/\Vals vs us/\Q vs H'
def SP (X:Cx) (pins:List 010) (D:Ends) (f:Flow) (s':Shared):Prop:=
 match f with
 | .next=>∃σ' H',Inv X pins σ' H' s'/\D.nx σ' H'
 | .brk=>∃σ' H',Inv X pins σ' H' s'/\D.bk σ' H'
 | .cont=>∃σ' H',Inv X pins σ' H' s'/\D.ct σ' H'
 | .ret u=>∃v σ' H',Inv X pins σ' H' s'/\RelV v u/\D.rt v H'
def PE (X:Cx) (e:Expr) (t:TE):Prop:=
 ∀(pins:List 010) (s:Shared) (σ:St) (H:Hp) (Q:VK),Inv X pins σ H s->t σ H Q->wpAny 000 X.A (eval e X.env) (EP X pins σ Q) X.xe s
def PT (X:Cx) (e:Expr) (t:TT):Prop:=
 ∀(pins:List 010) (s:Shared) (σ:St) (H:Hp) (Q:Bool->Hp->Prop),Inv X pins σ H s->t σ H Q->wpAny 000 X.A (isTrue e X.env (eval e X.env)) (TP X pins σ Q) X.xe s
def PW (X:Cx) (e:Expr) (t:TT):Prop:=
 ∀(whole:Sem Value) (pins:List 010) (s:Shared) (σ:St) (H:Hp) (Q:Bool->Hp->Prop),Inv X pins σ H s->t σ H Q->wpAny 000 X.A (isTrue e X.env whole) (TP X pins σ Q) X.xe s
theorem PW.pt {X:Cx} {e:Expr} {t:TT} (h:PW X e t):PT X e t:=h _
def PA (X:Cx) (es:List Expr) (t:TA):Prop:=
 ∀(pos:Pos) (pins:List 010) (s:Shared) (σ:St) (H:Hp) (Q:List V->Hp->Prop),Inv X pins σ H s->t σ H Q->wpAny 000 X.A (spliced (backTo pos (starEach es X.env))) (AP X pins σ Q) X.xe s
def PS (X:Cx) (st:Stmt) (t:TS):Prop:=
 ∀(pins:List 010) (s:Shared) (σ:St) (H:Hp) (D:Ends),Inv X pins σ H s->t D σ H->wpAny 000 X.A (exec st X.env) (SP X pins D) X.xe s
def PSs (X:Cx) (st:List Stmt) (t:TS):Prop:=
 ∀(pins:List 010) (s:Shared) (σ:St) (H:Hp) (D:Ends),Inv X pins σ H s->t D σ H->wpAny 000 X.A (execs st X.env) (SP X pins D) X.xe s
theorem thn {α:Type} {t:Sem α} {Q Q':α->Shared->Prop} {M:Model} {A:Around} {E:Value->Shared->Prop} {s:Shared} (h:wpAny M A t Q E s) (hQ:∀a s,Q a s->Q' a s):wpAny M A t Q' E s:=wpAny_mono h hQ fun _ _ x=>x
section
variable {X:Cx}
def tVar (i:Nat):TE:=fun σ H Q=>∃v,σ[i]? = some (some v)/\Q v H
def tC (v:V):TE:=fun _ H Q=>Q v H
theorem zsj {i:Nat} {x:Str} {pos:Pos} (hN:X.N[i]? = some x) (hv:Vis X.env.scope x) (hd:065=false:=by decide) (hcd:(x==("__classdict__":Str))=false:=by decide):PE X (.Name x pos) (tVar i):=by
 intro pins s σ H Q I h;obtain ⟨v,e,h⟩:=h;obtain ⟨m,hn,hl⟩:=I.loc;obtain ⟨u,r,l⟩:=hl i x v hN e hv;have fin:EP X pins σ Q u s:=⟨v,H,I,r,h⟩;rcases l with ⟨hk,hm⟩ | ⟨hk,c,hc,hcell⟩
 .exact wpAny_Name (wpAny_loadName_local I.ok.kind hk hn hm fin) hd
 .rcases hk with hk | hk
  .exact wpAny_Name (wpAny_loadName_cell I.ok.kind hk hc hcell fin) hd
  .exact wpAny_Name (wpAny_loadName_free I.ok.kind hk hc hcell fin hcd) hd
theorem zoL {i j pos}:PE X (.Constant (.int i) j pos) (tC (.int i)):=fun _ _ _ H _ I h=>wpAny_Constant_int ⟨.int i,H,I.tok _,⟨_,rfl⟩,h⟩
theorem zt1 {b j pos}:PE X (.Constant (.bool b) j pos) (tC (.bl b)):=fun _ _ _ H _ I h=>Constant_bool ⟨.bl b,H,I,rfl,h⟩
theorem zow {j pos}:PE X (.Constant .none j pos) (tC .non):=fun _ _ _ H _ I h=>Constant_none ⟨.non,H,I,rfl,h⟩
theorem zsv {x j pos}:PE X (.Constant (.str x) j pos) (tC (.str x)):=fun _ _ _ H _ I h=>Calls.Constant_str ⟨.str x,H,I.tok _,⟨_,rfl⟩,h⟩
def Gl (X:Cx) (x:Str):Prop:=X.env.kindOf x=some .globalImplicit
theorem zlR {E:Value->Shared->Prop} {pins:List 010} {s:Shared} {σ:St} {H:Hp} {x:Str} {u:Value} {pos:Pos} {Q:Value->Shared->Prop} (I:Inv X pins σ H s) (hg:Gl X x) (hm:X.mg x=some u) (h:Q u s)
  (hd:065=false:=by decide):wpAny 000 X.A (eval (.Name x pos) X.env) Q E s:=
 Calls.Name_function_global I.ok.kind hg (Calls.loadGlobal_global (by rw[I.ok.glob];exact I.mod.glob.keeps I.bk) hm h) hd
theorem zgs {E:Value->Shared->Prop} {pins:List 010} {s:Shared} {σ:St} {H:Hp} {x:Str} {u:Value} {pos:Pos} {Q:Value->Shared->Prop} (I:Inv X pins σ H s) (hg:Gl X x) (hm:X.mg x=none) (hv:bootBuiltins x=some u) (h:Q u s)
  (hn:x≠"__name__":=by decide) (hd:065=false:=by decide):wpAny 000 X.A (eval (.Name x pos) X.env) Q E s:=by
 obtain ⟨mb,h1,h2⟩:=I.mod.blt;exact Calls.Name_function_global I.ok.kind hg (Calls.loadGlobal_builtin (by rw[I.ok.glob];exact I.mod.glob.keeps I.bk) hm (by rw[I.ok.blt];exact h1.keeps I.bk) ((h2 x hn).trans hv) h) hd
theorem zo9 {x:Str} {v:V} {u:Value} {pos:Pos} (hg:Gl X x) (hm:X.mg x=some u) (r:RelV v u) (hd:065=false:=by decide):PE X (.Name x pos) (tC v):=
 fun _ _ _ H _ I h=>zlR I hg hm ⟨v,H,I,r,h⟩ hd
variable {a b:Expr} {ta tb:TE} {pos:Pos}
variable {tA tB':TT} {rest:List Expr}
def tAnd (t u:TT):TT:=fun σ H Q=>t σ H fun c H1=>if c=true then u σ H1 Q else Q false H1
def tOr (t u:TT):TT:=fun σ H Q=>t σ H fun c H1=>if c=true then Q true H1 else u σ H1 Q
def tNot (t:TT):TT:=fun σ H Q=>t σ H fun c H1=>Q (!c) H1
theorem zqh (ha:PT X a tA):PW X (.BoolOp .And [a] pos) tA:=by
 intro wh pins s σ H Q I h;refine isTrue_and (thn (ha pins s σ H Q I h) fun c s1 e=>?_)
 cases c with
 | true=>exact isTrue_and_nil e
 | false=>exact e
theorem zr3 (ha:PT X a tA):PW X (.BoolOp .Or [a] pos) tA:=by
 intro wh pins s σ H Q I h;refine isTrue_or (thn (ha pins s σ H Q I h) fun c s1 e=>?_)
 cases c with
 | false=>exact isTrue_or_nil e
 | true=>exact e
theorem zsJ (ha:PT X a tA) (hb:PW X (.BoolOp .And (b::rest) pos) tB'):PW X (.BoolOp .And (a::b::rest) pos) (tAnd tA tB'):=by
 intro wh pins s σ H Q I h;refine isTrue_and (thn 066 fun c s1 hx__=>?_);obtain ⟨H1,I1,q1⟩:=hx__
 cases c with
 | true=>exact hb wh pins s1 σ H1 Q I1 q1
 | false=>exact ⟨H1,I1,q1⟩
theorem zuy (ha:PT X a tA) (hb:PW X (.BoolOp .Or (b::rest) pos) tB'):PW X (.BoolOp .Or (a::b::rest) pos) (tOr tA tB'):=by
 intro wh pins s σ H Q I h;refine isTrue_or (thn 066 fun c s1 hx__=>?_);obtain ⟨H1,I1,q1⟩:=hx__
 cases c with
 | true=>exact ⟨H1,I1,q1⟩
 | false=>exact hb wh pins s1 σ H1 Q I1 q1
theorem zrq (ha:PT X a tA):PT X (.UnaryOp .Not a pos) (tNot tA):=by
 intro pins s σ H Q I h;exact isTrue_not (ha pins s σ H (fun c H1=>Q (!c) H1) I h)
def zuZ (ta tb:TE):TE:=fun σ H Q=>ta σ H fun x H1=>∃c,x=.bl c/\if c=true then tb σ H1 Q else Q (.bl false) H1
def tOrV (ta tb:TE):TE:=fun σ H Q=>ta σ H fun x H1=>∃c,x=.bl c/\if c=true then Q (.bl true) H1 else tb σ H1 Q
theorem zrK {op} {t:TE} (h:PE X a t):PE X (.BoolOp op [a] pos) t:=fun pins s σ H Q I hw=>BoolOp_one (h pins s σ H Q I hw)
theorem zsG (ha:PE X a ta) (hb:PE X (.BoolOp .And (b::rest) pos) tb):PE X (.BoolOp .And (a::b::rest) pos) (zuZ ta tb):=by
 intro pins s σ H Q I h;refine BoolOp_and (thn 066 fun v s1 hx__=>?_);obtain ⟨x,H1,I1,r1,q1⟩:=hx__;obtain ⟨c,rfl,q1⟩:=q1;cases r1;refine wpAny_truthy_bool ?_
 cases c with
 | true=>exact hb pins s1 σ H1 Q I1 q1
 | false=>exact ⟨.bl false,H1,I1,rfl,q1⟩
theorem ztM (ha:PE X a ta) (hb:PE X (.BoolOp .Or (b::rest) pos) tb):PE X (.BoolOp .Or (a::b::rest) pos) (tOrV ta tb):=by
 intro pins s σ H Q I h;refine BoolOp_or (thn 066 fun v s1 hx__=>?_);obtain ⟨x,H1,I1,r1,q1⟩:=hx__;obtain ⟨c,rfl,q1⟩:=q1;cases r1;refine wpAny_truthy_bool ?_
 cases c with
 | false=>exact hb pins s1 σ H1 Q I1 q1
 | true=>exact ⟨.bl true,H1,I1,rfl,q1⟩
def tIf (t:TT) (ta tb:TE):TE:=fun σ H Q=>t σ H fun c H1=>if c=true then ta σ H1 Q else tb σ H1 Q
theorem znp {c:Expr} (hc:PT X c tA) (ha:PE X a ta) (hb:PE X b tb):PE X (.IfExp c a b pos) (tIf tA ta tb):=by
 intro pins s σ H Q I h;refine wpAny_IfExp (thn (hc pins s σ H _ I h) fun d s1 hx__=>?_);obtain ⟨H1,I1,q1⟩:=hx__
 cases d with
 | true=>exact ha pins s1 σ H1 Q I1 q1
 | false=>exact hb pins s1 σ H1 Q I1 q1
end
def SqL (K:PySem.W.Frag) (H:Hp) (a:Addr) (xs:List V):Prop:=
 Rd H a 098\/
  ∃(o:Obj) (its:Array Value) (n:Nat),K.lookup a=some o/\o.cls=.type "list"/\o.dict=none/\o.data=.seq its n/\its.size<=sizeLine/\Vals xs its.toList
def SqT (K:PySem.W.Frag) (H:Hp) (a:Addr) (xs:List V):Prop:=
 Rd H a (.tup xs)\/
  ∃(o:Obj) (its:Array Value) (n:Nat),K.lookup a=some o/\o.cls=.type "tuple"/\o.data=.seq its n/\its.size<=sizeLine/\Vals xs its.toList
def absV:Value->Option V
 | .none=>some .non
 | .bool b=>some (.bl b)
 | .int i _=>some (.int i)
 | .str x _=>some (.str x)
 | .bytes b _=>some (.byt b)
 | .float b _=>some (.flt b)
 | .ref a=>some (.ref a)
 | .type n=>some (.ty n)
 | _=>none
theorem RelV.abs {x:V} {u:Value} (r:RelV x u):absV u=some x:=by
 cases x with
 | non=>cases r;rfl
 | bl _=>cases r;rfl
 | int _=>obtain ⟨t,rfl⟩:=r;rfl
 | str _=>obtain ⟨t,rfl⟩:=r;rfl
 | byt _=>obtain ⟨t,rfl⟩:=r;rfl
 | flt _=>obtain ⟨t,rfl⟩:=r;rfl
 | ref _=>cases r;rfl
 | ty _=>cases r;rfl
theorem RelV.inj {x y:V} {u:Value} (r:RelV x u) (q:RelV y u):x=y:=Option.some.inj (r.abs.symm.trans q.abs)
theorem Vals.inj {xs ys:List V} {us:List Value} (h:Vals xs us):Vals ys us->xs=ys:=by
 induction h generalizing ys with
 | nil=>intro g;cases g;rfl
 | cons r t ih=>
  intro g
  cases g with
  | cons r' t'=>rw[r.inj r',ih t']
section
variable {X:Cx} {pins:List (Addr×Obj)} {σ:St} {H:Hp} {s:Shared} {a:Addr} {xs ys:List V}
theorem SqL.of {K:PySem.W.Frag} (h:H a=some 098):SqL K H a xs:=.inl (.inl h)
theorem SqT.of {K:PySem.W.Frag} (h:H a=some (.tup xs)):SqT K H a xs:=.inl (.inl h)
theorem Inv.list (I:Inv X pins σ H s) (h:SqL X.K H a xs):∃its:List Value,Vals xs its/\PlainL s.heap a its.toArray/\xs.length<=sizeLine:=by
 rcases h with h | ⟨o,its,n,hk,hc,hd,hs,hz,r⟩
 .obtain ⟨z,its,n,r,e⟩:=h.ok I.hok;exact ⟨its,r,⟨_,n,e,rfl,rfl,rfl⟩,z⟩
 .refine ⟨its.toList,r,⟨o,n,I.kIn a o hk,hc,hd,by simpa using hs⟩, ?_⟩;have e:=r.length;simp only[Array.length_toList] at e;omega
theorem Inv.tuple (I:Inv X pins σ H s) (h:SqT X.K H a xs):∃its:List Value,Vals xs its/\IsTup s.heap a its.toArray/\xs.length<=sizeLine:=by
 rcases h with h | ⟨o,its,n,hk,hc,hs,hz,r⟩
 .obtain ⟨z,its,r,p⟩:=h.ok I.hok;exact ⟨its,r,p,z⟩
 .refine ⟨its.toList,r,⟨o,I.kIn a o hk,hc,n,by simpa using hs⟩, ?_⟩;have e:=r.length;simp only[Array.length_toList] at e;omega
theorem Inv.list_inj (I:Inv X pins σ H s) (h:SqL X.K H a xs) (h':SqL X.K H a ys):xs=ys:=by
 obtain ⟨its,r,⟨o,n,e,_,_,d⟩,_⟩:=I.list h;obtain ⟨its',r',⟨o',n',e',_,_,d'⟩,_⟩:=I.list h';rw[e] at e';cases e';rw[d] at d'
 injection d' with d1 _
 have:its=its':=by simpa using congrArg Array.toList d1
 subst this;exact r.inj r'
theorem Inv.tuple_inj (I:Inv X pins σ H s) (h:SqT X.K H a xs) (h':SqT X.K H a ys):xs=ys:=by
 obtain ⟨its,r,⟨o,e,_,n,d⟩,_⟩:=I.tuple h;obtain ⟨its',r',⟨o',e',_,n',d'⟩,_⟩:=I.tuple h';rw[e] at e';cases e';rw[d] at d'
 injection d' with d1 _
 have:its=its':=by simpa using congrArg Array.toList d1
 subst this;exact r.inj r'
end
abbrev Cx.wish (X:Cx) (E:Value->Shared->Prop):Cx:={ X with xe:=E }
abbrev Cx.nox (X:Cx):Cx:=X.wish fun _ _=>False
theorem Cx.Ok.wish {X:Cx} (ok:X.Ok) (E:Value->Shared->Prop):(X.wish E).Ok:=
 ⟨ok.mod,ok.kind,ok.glob,ok.blt,ok.above,ok.inj,ok.has,ok.cab,ok.hd,ok.frames,ok.stk,ok.exf,ok.bs,ok.bsz,ok.noex,ok.exfs,ok.funs,ok.frf⟩
theorem Cx.Ok.unwish {X:Cx} {E:Value->Shared->Prop} (ok:(X.wish E).Ok):X.Ok:=
 ⟨ok.mod,ok.kind,ok.glob,ok.blt,ok.above,ok.inj,ok.has,ok.cab,ok.hd,ok.frames,ok.stk,ok.exf,ok.bs,ok.bsz,ok.noex,ok.exfs,ok.funs,ok.frf⟩
section
variable {X:Cx} {pins:List (Addr×Obj)} {σ:St} {H:Hp} {s:Shared} {E:Value->Shared->Prop}
theorem Inv.wish (I:Inv X pins σ H s) (E:Value->Shared->Prop):Inv (X.wish E) pins σ H s:=⟨I.ok.wish E,I.os,I.bare,I.base,I.loc,I.cell,I.free,I.freeC,I.pin,I.hok,I.len⟩
theorem Inv.unwish (I:Inv (X.wish E) pins σ H s):Inv X pins σ H s:=⟨I.ok.unwish,I.os,I.bare,I.base,I.loc,I.cell,I.free,I.freeC,I.pin,I.hok,I.len⟩
theorem SP.unwish {D:Ends} {f:Flow} {s':Shared} (h:SP (X.wish E) pins D f s'):SP X pins D f s':=by
 cases f with
 | next=>obtain ⟨σ',H',I,q⟩:=h;exact ⟨σ',H',I.unwish,q⟩
 | brk=>obtain ⟨σ',H',I,q⟩:=h;exact ⟨σ',H',I.unwish,q⟩
 | cont=>obtain ⟨σ',H',I,q⟩:=h;exact ⟨σ',H',I.unwish,q⟩
 | ret u=>obtain ⟨v,σ',H',I,r,q⟩:=h;exact ⟨v,σ',H',I.unwish,r,q⟩
theorem PSs.nox {st:List Stmt} {t:TS} (h:PSs X.nox st t):PSs X st t:=fun pins s σ H D I hw=>
 wpAny_mono (h pins s σ H D (I.wish _) hw) (fun _ _ q=>q.unwish) fun _ _ z=>False.elim z
end
section
variable {X:Cx} {st:Stmt} {rest:List Stmt} {t u:TS} {e:Expr} {te:TE} {pos:Pos}
def zuk:TS:=fun D σ H=>D.nx σ H
def tSeq (t u:TS):TS:=fun D σ H=>t { D with nx:=u D } σ H
theorem pss_nil:PSs X [] zuk:=fun _ _ σ H _ I h=>wpAny_execs_nil ⟨σ,H,I,h⟩
theorem znI (h1:PS X st t) (h2:PSs X rest u):PSs X (st::rest) (tSeq t u):=by
 intro pins s σ H D I h;refine wpAny_execs_cons (thn (h1 pins s σ H { D with nx:=u D } I h) fun f s1 q=>?_)
 cases f with
 | next=>
  obtain ⟨σ',H',I',q⟩:=q;exact h2 pins s1 σ' H' D I' q
 | ret v=>exact q
 | brk=>exact q
 | cont=>exact q
theorem zpQ (h1:PS X st t):PSs X [st] t:=by
 intro pins s σ H D I h;refine wpAny_execs_cons (thn (h1 pins s σ H D I h) fun f s1 q=>?_)
 cases f with
 | next=>exact wpAny_execs_nil q
 | ret v=>exact q
 | brk=>exact q
 | cont=>exact q
def zsD:TS:=fun D σ H=>D.bk σ H
theorem ps_break:PS X (.Break pos) zsD:=fun _ _ σ H _ I h=>wpAny_Break ⟨σ,H,I,h⟩
theorem Inv.quiet {pins:List 010} {σ:St} {H:Hp} {s:Shared} (I:Inv X pins σ H s):interactive X.env=false:=by simp[interactive,I.ok.kind]
def zu3 (te:TE):TS:=fun D σ H=>te σ H fun _ H1=>D.nx σ H1
theorem zqi (he:PE X e te) (hs:swapsWith e none pos.line X.env=pure false:=by rfl):PS X (.Expr e pos) (zu3 te):=by
 intro pins s σ H D I h;exact wpAny_Expr_any (thn (he pins s σ H _ I h) fun v s1 ⟨x,H1,I1,r1,q1⟩=>⟨σ,H1,I1,q1⟩) I.quiet hs
def tRet (te:TE):TS:=fun D σ H=>te σ H D.rt
theorem zrs (he:PE X e te):PS X (.Return (some e) pos) (tRet te):=by
 intro pins s σ H D I h;exact wpAny_Return_some (thn (he pins s σ H _ I h) fun v s1 ⟨x,H1,I1,r1,q1⟩=>⟨x,σ,H1,I1,r1,q1⟩)
def tIfS (c:TT) (t u:TS):TS:=fun D σ H=>c σ H fun b H1=>if b=true then t D σ H1 else u D σ H1
theorem zu5 {c:Expr} {a b:List Stmt} {tc:TT} (hc:PT X c tc) (ha:PSs X a t) (hb:PSs X b u):PS X (.If c a b pos) (tIfS tc t u):=by
 intro pins s σ H D I h;refine wpAny_If (thn (hc pins s σ H _ I h) fun d s1 hx__=>?_);obtain ⟨H1,I1,q1⟩:=hx__
 cases d with
 | true=>exact ha pins s1 σ H1 D I1 q1
 | false=>exact hb pins s1 σ H1 D I1 q1
end
abbrev TG:=V->St->Hp->(St->Hp->Prop)->Prop
abbrev TGs:=List V->St->Hp->(St->Hp->Prop)->Prop
def PG (X:Cx) (target:Expr) (t:TG):Prop:=
 ∀(pins:List 010) (s:Shared) (σ:St) (H:Hp) (v:V) (u:Value) (Q:St->Hp->Prop),Inv X pins σ H s->RelV v u->t v σ H Q->
  wpAny 000 X.A (assign target X.env u) (fun _ s'=>∃σ' H',Inv X pins σ' H' s'/\Q σ' H') X.xe s
def PGs (X:Cx) (ts:List Expr) (t:TGs):Prop:=
 ∀(pins:List 010) (s:Shared) (σ:St) (H:Hp) (vs:List V) (us:List Value) (Q:St->Hp->Prop),Inv X pins σ H s->Vals vs us->t vs σ H Q->
  wpAny 000 X.A (assignInOrder ((assignEach ts X.env).map (·.2)) us) (fun _ s'=>∃σ' H',Inv X pins σ' H' s'/\Q σ' H') X.xe s
abbrev TSet:=V->V->V->Hp->(Hp->Prop)->Prop
def PSet (X:Cx) (t:TSet):Prop:=
 ∀(pins:List 010) (s:Shared) (σ:St) (H:Hp) (o i v:V) (ov iv u:Value) (Q:Hp->Prop),Inv X pins σ H s->RelV o ov->RelV i iv->RelV v u->t o i v H Q->
  wpAny 000 X.A (setItem ov iv u) (fun _ s'=>∃H',Inv X pins σ H' s'/\Q H') X.xe s
abbrev TIp:=V->V->Hp->VK->Prop
def PIp (X:Cx) (op:Operator) (t:TIp):Prop:=
 ∀(pins:List 010) (s:Shared) (σ:St) (H:Hp) (x y:V) (v u:Value) (Q:VK),Inv X pins σ H s->RelV x v->RelV y u->t x y H Q->
  wpAny 000 X.A (inplaceOp op v u) (EP X pins σ Q) X.xe s
section
variable {X:Cx} {pos:Pos}
def zkP (i:Nat):TG:=fun v σ H Q=>Q (σ.set i (some v)) H
theorem zbc {i:Nat} {x:Str} (hN:X.N.Nodup) (hi:X.N[i]? = some x) (hx:Loc X.env.scope x) (hf:X.fn x=true\/X.env.scope.names.lookup x=some .local:=by first | exact .inl rfl | exact .inr rfl | assumption):PG X (.Name x pos) (zkP i):=by
 intro pins s σ H v u Q I r h;exact wpAny_assign_Name (zhp I hN hi hx r (fun s' I'=>⟨_,H,I',h⟩) hf)
def gNil:TGs:=fun vs σ H Q=>vs=[]/\Q σ H
def zva (t:TG) (u:TGs):TGs:=fun vs σ H Q=>∃v r,vs=v::r/\t v σ H fun σ' H'=>u r σ' H' Q
theorem zpA:PGs X [] gNil:=by
 intro pins s σ H vs us Q I r h;obtain ⟨e,h⟩:=h;subst e;cases r;exact assignInOrder_nil ⟨σ,H,I,h⟩
theorem znv {e:Expr} {es:List Expr} {t:TG} {u:TGs} (h1:PG X e t) (h2:PGs X es u)
  (hs:(assignEach (e::es) X.env).map (·.2)=assign e X.env::(assignEach es X.env).map (·.2):=by rfl):PGs X (e::es) (zva t u):=by
 intro pins s σ H vs us Q I r h;obtain ⟨v,vr,e1,h⟩:=h;subst e1
 cases r with
 | cons r rr=>
  rw[hs];refine assignInOrder_cons (thn (h1 pins s σ H _ _ _ I r h) fun _ s1 hx__=>?_);obtain ⟨σ1,H1,I1,q1⟩:=hx__;exact h2 pins s1 σ1 H1 _ _ Q I1 rr q1
def gTup (K:PySem.W.Frag) (n:Nat) (t:TGs):TG:=fun v σ H Q=>∃a xs,v=.ref a/\SqT K H a xs/\xs.length=n/\t xs σ H Q
theorem zsp {es:List Expr} {k:Nat} {t:TGs} {n:Nat} (hc:X.calm=true) (h:PGs X es t)
  (hn:(assignEach es X.env).length=n:=by rfl) (hst:(assignEach es X.env).findIdx? (·.1)=none:=by rfl):PG X (.Tuple es k pos) (gTup X.K n t):=by
 intro pins s σ H v u Q I r hw;obtain ⟨a,xs,e1,hq,hl,hw⟩:=hw;subst e1;cases r;obtain ⟨its,rv,ht,hz⟩:=I.tuple hq;refine assign_Tuple_tuple (I.ok.hd hc) ht (by simp[hn,<-hl,rv.length]) hst fun h' hx=>?_
 have I1:Inv X pins σ H { s with heap:=h' }:=I.kept (t':=s.toks) fun b o e=>hx b o (Nat.ne_of_lt (Heap.lt_size e)) e
 exact h pins _ σ H xs _ Q I1 (by simpa using rv) hw
def gSub (to ti:TE) (t:TSet):TG:=fun v σ H Q=>to σ H fun o H1=>ti σ H1 fun i H2=>t o i v H2 fun H3=>Q σ H3
theorem zso {o i:Expr} {to ti:TE} {t:TSet} (ho:PE X o to) (hi:PE X i ti) (hs:PSet X t)
  (ha:∀v,assign (.Subscript o i pos) X.env v=(do
   let ov <-holding [v] (eval o X.env)
   let iv <-holding [v,ov] (eval i X.env)
   standAt pos
   holding [v,ov,iv] (setItem ov iv v)
   release [v,ov,iv] []):=by intro _;rfl):PG X (.Subscript o i pos) (gSub to ti t):=by
 intro pins s σ H v u Q I r h;rw[ha];refine wpAny_bind (wpAny_holding (thn (ho pins s σ H _ I h) fun ov s1 hx__=>?_));obtain ⟨x,H1,I1,r1,q1⟩:=hx__;refine wpAny_bind (wpAny_holding (thn (hi pins s1 σ H1 _ I1 q1) fun iv s2 hx__=>?_));obtain ⟨y,H2,I2,r2,q2⟩:=hx__;refine wpAny_bind (wpAny_standAt (wpAny_bind (wpAny_holding (thn (hs pins s2 σ H2 x y v ov iv u _ I2 r1 r2 r q2) fun _ s3 hx__=>?_))));obtain ⟨H3,I3,q3⟩:=hx__;exact wpAny_release ⟨σ,H3,I3,q3⟩
def tAsg (te:TE) (g:TG):TS:=fun D σ H=>te σ H fun x H1=>g x σ H1 D.nx
theorem zok {tg e:Expr} {te:TE} {g:TG} (he:PE X e te) (hg:PG X tg g) (hs:swapsWithSole [tg] e pos.line X.env=pure false:=by rfl) (hw:swappedStores [tg] e X.env=pure none:=by rfl)
  (h1:(assignEach [tg] X.env).map (·.2)=[assign tg X.env]:=by rfl):PS X (.Assign [tg] e pos) (tAsg te g):=by
 intro pins s σ H D I h;refine wpAny_Assign_stores (thn (he pins s σ H _ I h) fun v s1 ⟨x,H1,I1,r1,q1⟩=>?_) hs hw;rw[h1];exact thn (hg pins s1 σ H1 x v _ I1 r1 q1) fun _ s2 q=>q
theorem zsP {i:Nat} {x:Str} {e:Expr} {te:TE} {pos':Pos} (hN:X.N.Nodup) (hi:X.N[i]? = some x) (hx:Loc X.env.scope x) (he:PE X e te) (hs:swapsWith e (some (.Name x pos')) pos.line X.env=pure false:=by rfl) (hf:X.fn x=true\/X.env.scope.names.lookup x=some .local:=by first | exact .inl rfl | exact .inr rfl | assumption) :
  PS X (.Assign [.Name x pos'] e pos) (tAsg te (zkP i)):=by
 intro pins s σ H D I h;refine wpAny_Assign_Name (thn (he pins s σ H _ I h) fun v s1 ⟨y,H1,I1,r1,q1⟩=>?_) hs;exact zhp I1 hN hi hx r1 (fun s2 I2=>⟨_,H1,I2,q1⟩) hf
def tAug (i:Nat) (te:TE) (ti:TIp):TS:=fun D σ H=>∃x,σ[i]? = some (some x)/\te σ H fun y H1=>ti x y H1 fun z H2=>D.nx (σ.set i (some z)) H2
theorem zro {i:Nat} {x:Str} {e:Expr} {te:TE} {op:Operator} {ti:TIp} {pos':Pos} (hN:X.N.Nodup) (hi:X.N[i]? = some x) (hx:Loc X.env.scope x) (he:PE X e te) (ho:PIp X op ti) (hf:X.fn x=true\/X.env.scope.names.lookup x=some .local:=by first | exact .inl rfl | exact .inr rfl | assumption) :
  PS X (.AugAssign (.Name x pos') op e pos) (tAug i te ti):=by
 intro pins s σ H D I h;obtain ⟨v,e1,h⟩:=h;obtain ⟨m,hn,hl⟩:=I.loc;have vis:Vis X.env.scope x:=by rcases hx with k | k;exact .inl k;exact .inr (.inl k)
 obtain ⟨u,r,l⟩:=hl i x v hi e1 vis;refine wpAny_AugAssign_Name ?_;have go:wpAny 000 X.A (eval e X.env) (fun w s₂=>wpAny 000 X.A (inplaceOp op u w) (fun r s₃=>wpAny 000 X.A (storeName X.env x r) (fun _=>SP X pins D .next) X.xe s₃) X.xe s₂) X.xe s:=by
  refine thn (he pins s σ H _ I h) fun w s1 hx__=>?_
  obtain ⟨y,H1,I1,r1,q1⟩:=hx__;refine thn (ho pins s1 σ H1 v y u w _ I1 r r1 q1) fun z s2 hx__=>?_
  obtain ⟨zv,H2,I2,r2,q2⟩:=hx__;exact zhp I2 hN hi hx r2 (fun s3 I3=>⟨_,H2,I3,q2⟩) hf
 rcases l with ⟨hk,hm⟩ | ⟨hk,c,hc,hcell⟩
 .exact wpAny_loadName_local I.ok.kind hk hn hm go
 .rcases hk with hk | hk
  .exact wpAny_loadName_cell I.ok.kind hk hc hcell go
  .rcases hx with k | k
   .have:X.env.scope.names.lookup x=some .free:=hk
    rw[k] at this;cases this
   .have:X.env.scope.names.lookup x=some .free:=hk
    rw[k] at this;cases this
def ipI (f:Int->Int->Int):TIp:=fun x y H Q=>∃i j,x=.int i/\y=.int j/\Q (.int (f i j)) H
theorem zoQ:PIp X .Add (ipI fun i j=>i+j):=by
 intro pins s σ H x y v u Q I r1 r2 h;obtain ⟨i,j,e1,e2,q⟩:=h;subst e1;subst e2;obtain ⟨t,rfl⟩:=r1;obtain ⟨t',rfl⟩:=r2;exact iadd_int ⟨.int _,H,I.tok _,⟨_,rfl⟩,q⟩
end
section
variable {X:Cx} {pos:Pos}
def zrD (c:TT) (tb:TS):TS:=fun D σ H=>∃W:Nat->St->Hp->Prop,(∃m,W m σ H)/\∀m σ H,W m σ H->
 c σ H fun b H1=>if b=true then ∃N:St->Hp->Prop,(∀σ' H',N σ' H'->∃m',m' < m/\W m' σ' H')/\tb { D with nx:=N,ct:=N,bk:=D.nx } σ H1 else D.nx σ H1
theorem znr {c:Expr} {body:List Stmt} {tc:TT} {tb:TS} (hp:PassesOwn 000 X.A X.env X.xe) (hc:PT X c tc) (hb:PSs X body tb):PS X (.While c body [] pos) (zrD tc tb):=by
 intro pins s σ H D I h;obtain ⟨W,⟨m0,w0⟩,turn⟩:=h;refine wpAny_While (codeAny_whileLoop (fun n s'=>∃σ' H',Inv X pins σ' H' s'/\W n σ' H') ?_ m0 ⟨σ,H,I,w0⟩)
 rintro n s1 ⟨σ1,H1,I1,w1⟩
 refine wpAny_passesOwn hp (thn (hc pins s1 σ1 H1 _ I1 (turn n σ1 H1 w1)) fun b s2 hx__=>?_);obtain ⟨H2,I2,q2⟩:=hx__
 cases b with
 | true=>
  obtain ⟨N,hN,q2⟩:=q2;rw[if_pos rfl];refine wpAny_passesOwn hp (thn (hb pins s2 σ1 H2 _ I2 q2) fun f s3 q3=>?_)
  cases f with
  | next=>
   obtain ⟨σ3,H3,I3,n3⟩:=q3;obtain ⟨m',hm,w3⟩:=hN σ3 H3 n3;exact ⟨m',hm,σ3,H3,I3,w3⟩
  | cont=>
   obtain ⟨σ3,H3,I3,n3⟩:=q3;obtain ⟨m',hm,w3⟩:=hN σ3 H3 n3;exact ⟨m',hm,σ3,H3,I3,w3⟩
  | brk=>exact q3
  | ret v=>exact q3
 | false=>
  rw[if_neg Bool.false_ne_true];exact wpAny_execs_nil ⟨σ1,H2,I2,q2⟩
end
structure It where
 go:Nat->Hp->Prop
 yld:Nat->Hp->V->Hp->Prop
 stop:Nat->Hp->Prop
def FpOk (X:Cx) (pins:List 010) (H:Hp) (b:Addr):Prop:=
 H b=none/\b≠X.env.locals/\b∉X.fs/\097/\070/\∀p∈X.pn++pins,p.1≠b
theorem Inv.fpOk {X:Cx} {pins:List 010} {σ:St} {H H':Hp} {s:Shared} {b:Addr} (I:Inv X pins σ H s) (hb:s.heap.objs.size<=b) (hn:H' b=none):FpOk X pins H' b:=by
 refine ⟨hn,Nat.ne_of_gt (Nat.lt_of_lt_of_le I.lt hb),I.nofs hb,.inr (Nat.le_trans I.sz hb),fun x c e z=>?_,fun p hp z=>?_⟩
 .obtain ⟨v,q⟩:=I.cell x c e;exact absurd (Nat.lt_of_lt_of_le q.lt (by rw[z];exact hb)) (Nat.lt_irrefl _)
 .exact absurd (Nat.lt_of_lt_of_le (Heap.lt_size (I.pin p hp).1) (by rw[z];exact hb)) (Nat.lt_irrefl _)
structure Turn (P:Program) (w:World) (K:PySem.W.Frag) (tg:Expr) (J:It) (fp:List Addr) (it:Addr) (tn:Nat->Heap->Prop):Prop where
 mem:it∈fp
 obj:∀i h,tn i h->∀b∈fp,∃o,h.get? b=some o/\∀v,o.data≠.cell v
 keep:∀i h h',tn i h->(∀b∈fp,∀o,h.get? b=some o->h'.get? b=some o)->tn i h'
 item:∀(X:Cx),X.prog=P->X.w=w->X.K=K->X.calm=true->∀(i:Nat) (pins:List 010) (s:Shared) (σ:St) (H:Hp) (E:Value->Shared->Prop),Inv X pins σ H s->(∀b∈fp,FpOk X pins H b)->tn i s.heap->J.go i H->
  wpAny (model P w) X.A (pyNext (.ref it)) (fun r s1=>∃u,r=some u/\
   wpAny (model P w) X.A (letOwnedTupleGo tg (.ref it) u) (fun _ s2=>∃x H',Inv X pins σ H' s2/\RelV x u/\J.yld i H x H'/\tn (i+1) s2.heap/\∀b∈fp,H' b=none) E s1) E s
 done:∀(X:Cx),X.prog=P->X.w=w->X.K=K->X.calm=true->∀(i:Nat) (pins:List 010) (s:Shared) (σ:St) (H:Hp) (E:Value->Shared->Prop),Inv X pins σ H s->(∀b∈fp,FpOk X pins H b)->tn i s.heap->J.stop i H->
  wpAny (model P w) X.A (pyNext (.ref it)) (fun r s1=>r=none/\Inv X pins σ H s1) E s
 self:∀(A:Around) (i:Nat) (s:Shared) (Q:Value->Shared->Prop) (E:Value->Shared->Prop),tn i s.heap->Q (.ref it) s->wpAny (model P w) A (pyIter (.ref it)) Q E s
abbrev TI:=St->Hp->(It->Hp->Prop)->Prop
def PIE (X:Cx) (pins:List 010) (σ:St) (tg:Expr) (R:It->Hp->Prop) (itv:Value) (s2:Shared):Prop:=
 ∃(it:Addr) (fp:List Addr) (tn:Nat->Heap->Prop) (J:It) (H':Hp),itv=.ref it/\Inv X pins σ H' s2/\Turn X.prog X.w X.K tg J fp it tn/\tn 0 s2.heap/\(∀b∈fp,FpOk X pins H' b)/\R J H'
def PI (X:Cx) (tg iter:Expr) (wi:TI):Prop:=
 ∀(pins:List 010) (s:Shared) (σ:St) (H:Hp) (R:It->Hp->Prop),Inv X pins σ H s->wi σ H R->
  wpAny 000 X.A (eval iter X.env) (fun v s1=>wpAny 000 X.A (pyIter v) (PIE X pins σ tg R) X.xe s1) X.xe s
theorem znD {M:Model} {A:Around} {E:Value->Shared->Prop} {s:Shared} {tg:Expr} {it:Addr} {u:Value} {o:Obj} {n:String} {vs:Array Value} {Q:Unit->Shared->Prop} (ho:s.heap.get? it=some o) (hc:o.cls=.type n) (hd:o.data=.fields vs)
    (hn:["enumerate","zip","dict_itemiterator","dict_reverseitemiterator","odict_iterator","itertools.zip_longest","itertools.pairwise"].contains n=false) (hQ:Q () s):wpAny M A (letOwnedTupleGo tg (.ref it) u) Q E s:=by
  unfold letOwnedTupleGo
  cases tg<;>first
    | exact wpAny_pure hQ
    | (cases u<;>first
        | exact wpAny_pure hQ
        | (refine wpAny_bind (wpAny_load ho ?_)
           rw[hc,hd]
           show wpAny M A (if (["enumerate","zip","dict_itemiterator","dict_reverseitemiterator","odict_iterator","itertools.zip_longest","itertools.pairwise"].contains n&&vs[0]? == some (rawInt _))=true then _ else _) Q E s
           rw[if_neg (by intro h;rw[hn,Bool.false_and] at h;cases h)];exact wpAny_pure hQ))
def Itl (K:PySem.W.Frag) (a:Addr):It:=
 ⟨fun i H=>∃xs x,SqL K H a xs/\xs[i]? = some x,fun i H x H'=>H'=H/\∀xs,SqL K H a xs->xs[i]? = some x,fun i H=>∃xs,SqL K H a xs/\xs.length<=i⟩
def Itt (K:PySem.W.Frag) (a:Addr):It:=
 ⟨fun i H=>∃xs x,SqT K H a xs/\xs[i]? = some x,fun i H x H'=>H'=H/\∀xs,SqT K H a xs->xs[i]? = some x,fun i H=>∃xs,SqT K H a xs/\xs.length<=i⟩
def Itr (lo:Int) (n:Nat):It:=⟨fun i _=>i < n,fun i H x H'=>H'=H/\x=.int (lo+i),fun i _=>n<=i⟩
theorem zl9 {P:Program} {w:World} {K:PySem.W.Frag} {tg:Expr} (a it:Addr):Turn P w K tg (Itl K a) [it] it (fun i h=>h.IsListIter it a i) where
 mem:=by simp
 obj:=fun i h st b hb=>by
  have e:b=it:=by simpa using hb
  subst e;obtain ⟨o,e,c,d⟩:=st;exact ⟨o,e,fun v z=>by rw[d] at z;cases z⟩
 keep:=fun i h h' st k=>st.at fun o e=>k it (by simp) o e
 item:=by
  intro X hP hw hK hc i pins s σ H E I hf st hg;subst hP hw hK;obtain ⟨xs,x,hq,hx⟩:=hg;obtain ⟨its,rv,p,hz⟩:=I.list hq;obtain ⟨u,hu,ru⟩:=rv.get hx;obtain ⟨f0,f1,f2,f3,f4,f5⟩:=hf it (by simp);refine wpAny_pyNext_list_item st p.isList (x:=u) (by simpa using hu) fun h' st' sb=>?_
  have I1:Inv X pins σ H { s with heap:=h' }:=I.turned (t':=s.toks) (fun b o hb e=>(sb.2 b hb).trans e) f0 f1 f3 f4 f5;obtain ⟨o,e,c,d⟩:=id st';exact ⟨u,rfl,znD (s:={ s with heap:=h' }) e c d (by decide) ⟨x,H,I1,ru,⟨rfl,fun ys hy=>by rw[I.list_inj hy hq];exact hx⟩,st',fun b hb=>(hf b hb).1⟩⟩
 done:=by
  intro X hP hw hK hc i pins s σ H E I hf st hg;subst hP hw hK;obtain ⟨xs,hq,hx⟩:=hg;obtain ⟨its,rv,p,hz⟩:=I.list hq;obtain ⟨f0,f1,f2,f3,f4,f5⟩:=hf it (by simp);have hl:=rv.length;exact wpAny_pyNext_list_end (I.ok.hd hc) st p.isList (by simp;omega) fun h' eb=>⟨rfl,I.turned (t':=s.toks) (fun b o hb e=>eb b o hb e) f0 f1 f3 f4 f5⟩
 self:=fun _ _ _ _ _ st h=>wpAny_pyIter_listiter st h
theorem zkI {P:Program} {w:World} {K:PySem.W.Frag} {tg:Expr} (a it:Addr):Turn P w K tg (Itt K a) [it] it (fun i h=>h.IsTupleIter it a i) where
 mem:=by simp
 obj:=fun i h st b hb=>by
  have e:b=it:=by simpa using hb
  subst e;obtain ⟨o,e,c,d⟩:=st;exact ⟨o,e,fun v z=>by rw[d] at z;cases z⟩
 keep:=fun i h h' st k=>st.at fun o e=>k it (by simp) o e
 item:=by
  intro X hP hw hK hc i pins s σ H E I hf st hg;subst hP hw hK;obtain ⟨xs,x,hq,hx⟩:=hg;obtain ⟨its,rv,p,hz⟩:=I.tuple hq;obtain ⟨u,hu,ru⟩:=rv.get hx;obtain ⟨f0,f1,f2,f3,f4,f5⟩:=hf it (by simp);refine wpAny_pyNext_tuple_item st (show s.heap.IsTuple a its.toArray from p) (x:=u) (by simpa using hu) fun h' st' sb=>?_
  have I1:Inv X pins σ H { s with heap:=h' }:=I.turned (t':=s.toks) (fun b o hb e=>(sb.2 b hb).trans e) f0 f1 f3 f4 f5;obtain ⟨o,e,c,d⟩:=id st';exact ⟨u,rfl,znD (s:={ s with heap:=h' }) e c d (by decide) ⟨x,H,I1,ru,⟨rfl,fun ys hy=>by rw[I.tuple_inj hy hq];exact hx⟩,st',fun b hb=>(hf b hb).1⟩⟩
 done:=by
  intro X hP hw hK hc i pins s σ H E I hf st hg;subst hP hw hK;obtain ⟨xs,hq,hx⟩:=hg;obtain ⟨its,rv,p,hz⟩:=I.tuple hq;obtain ⟨f0,f1,f2,f3,f4,f5⟩:=hf it (by simp);have hl:=rv.length;exact wpAny_pyNext_tuple_end (I.ok.hd hc) st (show s.heap.IsTuple a its.toArray from p) (by simp;omega) fun h' eb=>⟨rfl,I.turned (t':=s.toks) (fun b o hb e=>eb b o hb e) f0 f1 f3 f4 f5⟩
 self:=fun _ _ _ _ _ st h=>wpAny_pyIter_tupleiter st h
theorem zk4 {P:Program} {w:World} {K:PySem.W.Frag} {tg:Expr} (it:Addr) (lo:Int) (n:Nat):Turn P w K tg (Itr lo n) [it] it (fun i h=>IsRangeIter h it (lo+(i:Nat) * 1) ((n:Int) - (i:Nat)) 1) where
 mem:=by simp
 obj:=fun i h st b hb=>by
  have e:b=it:=by simpa using hb
  subst e;exact ⟨_,st,fun v z=>by
   have z':Data.fields _=Data.cell v:=z
   cases z'⟩
 keep:=fun i h h' st k=>k it (by simp) _ st
 item:=by
  intro X hP hw hK hc i pins s σ H E I hf st hg;subst hP hw hK;obtain ⟨f0,f1,f2,f3,f4,f5⟩:=hf it (by simp);have W:=Walks.range (prog:=X.prog) (w:=X.w) (I.ok.hd hc) it lo 1 n;refine W.item i s _ _ hg st fun v h' tk hv st' kk=>?_
  obtain ⟨t,rfl⟩:=hv;have I1:Inv X pins σ H { s with heap:=h',toks:=tk }:=I.turned (fun b o hb e=>kk b o (by simpa using hb) e) f0 f1 f3 f4 f5;refine ⟨_,rfl,znD (s:={ s with heap:=h',toks:=tk }) (n:="range_iterator") st' rfl rfl (by decide) ⟨.int (lo+i),H,I1,⟨t, ?_⟩,⟨rfl,rfl⟩,st',fun b hb=>(hf b hb).1⟩⟩;rw[Int.mul_one]
 done:=by
  intro X hP hw hK hc i pins s σ H E I hf st hg;subst hP hw hK;obtain ⟨f0,f1,f2,f3,f4,f5⟩:=hf it (by simp);exact wpAny_pyNext_range_end (I.ok.hd hc) st (by have:n<=i:=hg;omega) fun h' eb=>⟨rfl,I.turned (t':=s.toks) (fun b o hb e=>eb b o hb e) f0 f1 f3 f4 f5⟩
 self:=fun _ _ _ _ _ st h=>wpAny_pyIter_rangeiter st h
section
variable {X:Cx} {tg:Expr}
theorem zn6 {pins:List 010} {σ:St} {H:Hp} {s:Shared} {R:It->Hp->Prop} {E:Value->Shared->Prop} {lo hi:Int} {t u v:Tok} {tk:Nat} (I:Inv X pins σ H s) (h1:-(2 ^ 62)<=lo) (h2:lo < 2 ^ 62) (h3:-(2 ^ 62)<=hi) (h4:hi < 2 ^ 62)
  (q:R (Itr lo (hi - lo).toNat) H):wpAny 000 X.A (pyIter (.ref s.heap.objs.size)) (PIE X pins σ tg R) E { s with heap:=s.heap.push { cls:=.type "range",data:=.fields #[.int lo t,.int hi u,.int 1 v] },toks:=tk }:=by
 refine wpAny_pyIter_range (IsRange.new ..) (small_one h1 h2 h3 h4) ?_;have I1:Inv X pins σ H { s with heap:=s.heap.push { cls:=.type "range",data:=.fields #[.int lo t,.int hi u,.int 1 v] },toks:=tk }:=I.kept fun b o e=>Heap.get?_push_of_some _ e
 refine ⟨(s.heap.push { cls:=.type "range",data:=.fields #[.int lo t,.int hi u,.int 1 v] }).objs.size,[(s.heap.push { cls:=.type "range",data:=.fields #[.int lo t,.int hi u,.int 1 v] }).objs.size],_,_,H,rfl,
  I1.kept (t':=tk) fun b o e=>Heap.get?_push_of_some _ e,zk4 _ lo (hi - lo).toNat, ?_,fun b hb=>?_,q⟩
 .have e1:lo+((0:Nat):Int) * 1=lo:=by simp
  have e2:(((hi - lo).toNat:Nat):Int) - ((0:Nat):Int)=Builtin.Range.rangeSize lo hi 1:=by rw[rangeSize_one];split<;>omega
  show IsRangeIter _ _ (lo+((0:Nat):Int) * 1) ((((hi - lo).toNat:Nat):Int) - ((0:Nat):Int)) 1
  rw[e1,e2];exact Heap.get?_push_size _ rfl
 .have e:b=(s.heap.push { cls:=.type "range",data:=.fields #[.int lo t,.int hi u,.int 1 v] }).objs.size:=by simpa using hb
  subst e;exact I1.fpOk 022 (I1.hok.fresh 022)
def zs0 (ta:TA):TI:=fun σ H R=>ta σ H fun vs H1=>∃j:Int,vs=[.int j]/\-(2 ^ 62)<=j/\j < 2 ^ 62/\R (Itr 0 j.toNat) H1
theorem zgH {a:Expr} {ta:TA} {p pos:Pos} (hg:Gl X "range") (hm:X.mg "range"=none) (ha:PA X [a] ta) (hs:starEach [a] X.env=[(false,eval a X.env)]:=by rfl):PI X tg (.Call (.Name "range" p) [a] [] pos) (zs0 ta):=by
 intro pins s σ H R I h;refine Call_ (zgs I hg hm boot_range 064);obtain ⟨j,e,q1,q2,q⟩:=q1;subst e
 cases r1 with
 | cons r rr=>
  cases rr;obtain ⟨t,rfl⟩:=r;exact call_range_1 (zn6 I1 ∅ ∅ q1 q2 (by simpa using q))
def tFor (wi:TI) (g:TG) (tb:TS):TS:=fun D σ H=>wi σ H fun J H1=>∃W:Nat->Nat->St->Hp->Prop,(∃m,W 0 m σ H1)/\∀i m σ H,W i m σ H->
 (J.stop i H/\D.nx σ H)\/(J.go i H/\∃N:St->Hp->Prop,(∀σ' H',N σ' H'->∃m',m' < m/\W (i+1) m' σ' H')/\∀x H',J.yld i H x H'->g x σ H' fun σ2 H2=>tb { D with nx:=N,ct:=N,bk:=D.nx } σ2 H2)
def zhc (fp:List Addr) (h:Heap):List 010:=fp.filterMap fun b=>(h.get? b).map fun o=>(b,o)
theorem zeC {fp:List Addr} {h:Heap} {b:Addr} {o:Obj} (hb:b∈fp) (e:h.get? b=some o):(b,o)∈zhc fp h:=List.mem_filterMap.mpr ⟨b,hb,by rw[e];rfl⟩
theorem zmq {fp:List Addr} {h:Heap} {p:Addr×Obj} (hp:p∈zhc fp h):p.1∈fp/\h.get? p.1=some p.2:=by
 obtain ⟨b,hb,e⟩:=List.mem_filterMap.mp hp
 cases q:h.get? b with
 | none=>rw[q] at e;cases e
 | some o=>
  rw[q] at e;have e':(b,o)=p:=Option.some.inj e;subst e';exact ⟨hb,q⟩
theorem Inv.pinned {pins:List 010} {σ:St} {H:Hp} {s:Shared} {fp:List Addr} (I:Inv X pins σ H s) (hf:∀b∈fp,FpOk X pins H b) (ho:∀b∈fp,∃o,s.heap.get? b=some o/\∀v,o.data≠.cell v):Inv X (pins++zhc fp s.heap) σ H s:=
 I.pins_of fun p hp=>(List.mem_append.mp hp).elim (fun z=>I.pin p (List.mem_append_right _ z)) fun z=>by
  obtain ⟨hb,e⟩:=zmq z;obtain ⟨f0,f1,f2,_⟩:=hf p.1 hb;obtain ⟨o,e',d⟩:=ho p.1 hb;rw[e] at e';cases e';exact ⟨e,f0,f1,f2,d⟩
theorem Inv.unpinned {pins pl:List 010} {σ:St} {H:Hp} {s:Shared} (I:Inv X (pins++pl) σ H s):Inv X pins σ H s:=I.pins_of fun p hp=>I.pin p (List.mem_append_right _ (List.mem_append_left _ hp))
theorem zjK {iter:Expr} {body:List Stmt} {wi:TI} {g:TG} {tb:TS} {pos:Pos} (hp:PassesOwn 000 X.A X.env X.xe) (hc:X.calm=true) (hi:PI X tg iter wi) (hg:PG X tg g) (hb:PSs X body tb)
  (hs:∀x,foldedSetIterable iter X.env x=pure x:=by intro _;rfl):PS X (.For tg iter body [] pos) (tFor wi g tb):=by
 intro pins s σ H D I h;refine wpAny_For (thn (hi pins s σ H _ I h) fun v s1 h1=>thn h1 fun itv s2 h2=>?_) hs;obtain ⟨it,fp,tn,J,H2,e,I2,T,st2,f2,W,⟨m0,w0⟩,turn⟩:=h2;subst e
 -- what stays true of the iterator's objects through the loop
 have stat:∀{H':Hp},(∀b∈fp,H' b=none)->∀b∈fp,FpOk X pins H' b:=fun hn b hb=>⟨hn b hb,(f2 b hb).2⟩
 refine codeAny_forLoop_any (fun n s'=>∃i σ' H',Inv X pins σ' H' s'/\tn i s'.heap/\(∀b∈fp,H' b=none)/\W i n σ' H') ?_ m0 ⟨0,σ,H2,I2,st2,fun b hb=>(f2 b hb).1,w0⟩
 rintro n s3 ⟨i,σ3,H3,I3,st3,fr3,w3⟩
 rcases turn i n σ3 H3 w3 with ⟨stop,qn⟩ | ⟨go,N,hN,step⟩
 .refine wpAny_passesOwn hp (thn (T.done X rfl rfl rfl hc i pins s3 σ3 H3 X.xe I3 (stat fr3) st3 stop) fun r s4 hx__=>?_);obtain ⟨hr,I4⟩:=hx__;subst hr;exact wpAny_execs_nil ⟨σ3,H3,I4,qn⟩
 .refine wpAny_passesOwn hp (thn (T.item X rfl rfl rfl hc i pins s3 σ3 H3 X.xe I3 (stat fr3) st3 go) fun r s4 hx__=>?_);obtain ⟨u,hr,h4⟩:=hx__;subst hr;refine wpAny_passesOwn hp (thn h4 fun _ s5 hx__=>?_);obtain ⟨x,H5,I5,r5,y5,st5,fr5⟩:=hx__;have I5':=I5.pinned (stat fr5) (T.obj _ _ st5);refine wpAny_passesOwn hp (thn (hg _ s5 σ3 H5 x u _ I5' r5 (step x H5 y5)) fun _ s6 hx__=>?_);obtain ⟨σ6,H6,I6,q6⟩:=hx__;refine wpAny_passesOwn hp (thn (hb _ s6 σ6 H6 _ I6 q6) fun f s7 q7=>?_);have again:∀{σ7:St} {H7:Hp},Inv X (pins++zhc fp s5.heap) σ7 H7 s7->N σ7 H7->∃m,m < n/\∃i σ' H',Inv X pins σ' H' s7/\tn i s7.heap/\(∀b∈fp,H' b=none)/\W i m σ' H':=fun {σ7 H7} I7 n7=>by
   obtain ⟨m',hm,w7⟩:=hN σ7 H7 n7;refine ⟨m',hm,i+1,σ7,H7,I7.unpinned,T.keep _ _ _ st5 fun b hb o e=>(I7.pin (b,o) 081).1,fun b hb=>?_,w7⟩;obtain ⟨o,e,d⟩:=T.obj _ _ st5 b hb;exact (I7.pin (b,o) 081).2.1
  cases f with
  | next=>obtain ⟨σ7,H7,I7,n7⟩:=q7;exact again I7 n7
  | cont=>obtain ⟨σ7,H7,I7,n7⟩:=q7;exact again I7 n7
  | brk=>obtain ⟨σ7,H7,I7,q7⟩:=q7;exact ⟨σ7,H7,I7.unpinned,q7⟩
  | ret v=>obtain ⟨x7,σ7,H7,I7,r7,q7⟩:=q7;exact ⟨x7,σ7,H7,I7.unpinned,r7,q7⟩
end
abbrev R2:=V->V->Hp->VK->Prop
def OpR (X:Cx) (f:Value->Value->Sem Value) (r:R2):Prop:=
 ∀(pins:List 010) (s:Shared) (σ:St) (H:Hp) (x y:V) (v u:Value) (Q:VK),Inv X pins σ H s->RelV x v->RelV y u->r x y H Q->
  wpAny 000 X.A (f v u) (EP X pins σ Q) X.xe s
def UnR (X:Cx) (f:Value->Sem Value) (r:V->Hp->VK->Prop):Prop:=
 ∀(pins:List 010) (s:Shared) (σ:St) (H:Hp) (x:V) (v:Value) (Q:VK),Inv X pins σ H s->RelV x v->r x H Q->
  wpAny 000 X.A (f v) (EP X pins σ Q) X.xe s
def CallR (X:Cx) (f:Value) (r:List V->Hp->VK->Prop):Prop:=
 ∀(pins:List 010) (s:Shared) (σ:St) (H:Hp) (xs:List V) (us:List Value) (Q:VK),Inv X pins σ H s->Vals xs us->r xs H Q->
  wpAny 000 X.A (call f us) (EP X pins σ Q) X.xe s
def TruR (X:Cx) (r:V->Hp->(Bool->Hp->Prop)->Prop):Prop:=
 ∀(pins:List 010) (s:Shared) (σ:St) (H:Hp) (x:V) (v:Value) (Q:Bool->Hp->Prop),Inv X pins σ H s->RelV x v->r x H Q->
  wpAny 000 X.A (truthy v) (TP X pins σ Q) X.xe s
def tOp (r:R2) (ta tb:TE):TE:=fun σ H Q=>ta σ H fun x H1=>tb σ H1 fun y H2=>r x y H2 Q
def tUn (r:V->Hp->VK->Prop) (ta:TE):TE:=fun σ H Q=>ta σ H fun x H1=>r x H1 Q
def rI (C:Int->Int->Prop) (g:Int->Int->V):R2:=fun x y H Q=>∃i j,x=.int i/\y=.int j/\C i j/\Q (g i j) H
def rI0 (g:Int->Int->V):R2:=fun x y H Q=>∃i j,x=.int i/\y=.int j/\Q (g i j) H
def rU (g:Int->V):V->Hp->VK->Prop:=fun x H Q=>∃i,x=.int i/\Q (g i) H
section
variable {X:Cx} {a b c:Expr} {ta tb tc:TE} {pos:Pos}
theorem binT (ha:PE X a ta) (hb:PE X b tb) {pins:List 010} {s:Shared} {σ:St} {H:Hp} {R:V->V->Hp->Prop} (I:Inv X pins σ H s)
  (h:ta σ H fun x H1=>tb σ H1 fun y H2=>R x y H2) {Q:Value->Shared->Prop} {f:Value->Value->Sem Value}
  (hf:∀v u s2 x y H2,Inv X pins σ H2 s2->RelV x v->RelV y u->R x y H2->wpAny 000 X.A (f v u) Q X.xe s2) :
  wpAny 000 X.A (eval a X.env) (fun v s₁=>wpAny 000 X.A (eval b X.env) (fun u s₂=>wpAny 000 X.A (f v u) Q X.xe s₂) X.xe s₁) X.xe s:=by
 refine thn 066 fun v s1 hx__=>?_
 obtain ⟨x,H1,I1,r1,q1⟩:=hx__;refine thn (hb pins s1 σ H1 _ I1 q1) fun u s2 hx__=>?_
 obtain ⟨y,H2,I2,r2,q2⟩:=hx__;exact hf v u s2 x y H2 I2 r1 r2 q2
theorem zuV {op:Operator} {r:R2} (ho:OpR X (binaryOp op) r) (ha:PE X a ta) (hb:PE X b tb):PE X (.BinOp a op b pos) (tOp r ta tb):=by
 intro pins s σ H Q I h;exact wpAny_BinOp (binT ha hb I h fun v u s2 x y H2 I2 rx ry q=>ho pins s2 σ H2 x y v u Q I2 rx ry q)
theorem zrv {op:UnaryOp} {r:V->Hp->VK->Prop} (ho:UnR X (unaryOp op) r) (ha:PE X a ta):PE X (.UnaryOp op a pos) (tUn r ta):=by
 intro pins s σ H Q I h;exact UnaryOp_ (thn 066 fun v s1 ⟨x,H1,I1,r1,q1⟩=>ho pins s1 σ H1 x v Q I1 r1 q1)
theorem opI {f:Value->Value->Sem Value} {C:Int->Int->Prop} {g:Int->Int->Int}
  (rule:∀(i j:Int) (t u:Tok) (s:Shared) (Q:Value->Shared->Prop) (E:Value->Shared->Prop),C i j->Q (.int (g i j) s.toks) { s with toks:=s.toks+1 }->wpAny 000 X.A (f (.int i t) (.int j u)) Q E s) :
  OpR X f (rI C fun i j=>.int (g i j)):=by
 intro pins s σ H x y v u Q I rx ry h;obtain ⟨i,j,rfl,rfl,hc,q⟩:=h;obtain ⟨t,rfl⟩:=rx;obtain ⟨t',rfl⟩:=ry;exact rule i j t t' s _ _ hc ⟨.int (g i j),H,I.tok _,⟨_,rfl⟩,q⟩
theorem opI0 {f:Value->Value->Sem Value} {g:Int->Int->Int}
  (rule:∀(i j:Int) (t u:Tok) (s:Shared) (Q:Value->Shared->Prop) (E:Value->Shared->Prop),Q (.int (g i j) s.toks) { s with toks:=s.toks+1 }->wpAny 000 X.A (f (.int i t) (.int j u)) Q E s) :
  OpR X f (rI0 fun i j=>.int (g i j)):=by
 intro pins s σ H x y v u Q I rx ry h;obtain ⟨i,j,rfl,rfl,q⟩:=h;obtain ⟨t,rfl⟩:=rx;obtain ⟨t',rfl⟩:=ry;exact rule i j t t' s _ _ ⟨.int (g i j),H,I.tok _,⟨_,rfl⟩,q⟩
theorem opB0 {f:Value->Value->Sem Value} {g:Int->Int->Bool}
  (rule:∀(i j:Int) (t u:Tok) (s:Shared) (Q:Value->Shared->Prop) (E:Value->Shared->Prop),Q (.bool (g i j)) s->wpAny 000 X.A (f (.int i t) (.int j u)) Q E s) :
  OpR X f (rI0 fun i j=>.bl (g i j)):=by
 intro pins s σ H x y v u Q I rx ry h;obtain ⟨i,j,rfl,rfl,q⟩:=h;obtain ⟨t,rfl⟩:=rx;obtain ⟨t',rfl⟩:=ry;exact rule i j t t' s _ _ ⟨.bl (g i j),H,I,rfl,q⟩
def CPow (i j:Int):Prop:=0<=j/\j<=1000000/\i.natAbs < 2 ^ 64
def CMul (i j:Int):Prop:=(-(2 ^ 64) < i/\i < 2 ^ 64)\/(-(2 ^ 64) < j/\j < 2 ^ 64)
theorem CMul.ok {i j:Int} (h:CMul i j):IntMulOk i j:=by
 rcases h with ⟨h1,h2⟩ | ⟨h1,h2⟩
 .exact .of_left (intBits_le_64 h1 h2)
 .exact .of_right (intBits_le_64 h1 h2)
theorem op_add:OpR X (binaryOp .Add) (rI0 fun i j=>.int (i+j)):=opI0 fun _ _ _ _ _ _ _ q=>add_int q
theorem zrU:OpR X (binaryOp .Sub) (rI0 fun i j=>.int (i - j)):=opI0 fun _ _ _ _ _ _ _ q=>sub_int q
theorem op_mul:OpR X (binaryOp .Mult) (rI CMul fun i j=>.int (i * j)):=opI fun _ _ _ _ _ _ _ hc q=>mul_int q hc.ok
theorem zsV:OpR X (binaryOp .Mod) (rI (fun _ j=>0 < j) fun i j=>.int (i % j)):=opI fun i j _ _ _ _ _ hc q=>by
 have h1:(0:Int) < j:=hc;exact mod_int' ∅ (by rw[Int.fmod_eq_emod_of_nonneg i ∅];exact q)
theorem zsT:OpR X (binaryOp .Pow) (rI CPow fun i j=>.int (i ^ j.toNat)):=opI fun _ _ _ _ _ _ _ hc q=>pow_int_small hc.1 hc.2.1 hc.2.2 q
theorem unI {f:Value->Sem Value} {g:Int->Int}
  (rule:∀(i:Int) (t:Tok) (s:Shared) (Q:Value->Shared->Prop) (E:Value->Shared->Prop),Q (.int (g i) s.toks) { s with toks:=s.toks+1 }->wpAny 000 X.A (f (.int i t)) Q E s) :
  UnR X f (rU fun i=>.int (g i)):=by
 intro pins s σ H x v Q I rx h;obtain ⟨i,rfl,q⟩:=h;obtain ⟨t,rfl⟩:=rx;exact rule i t s _ _ ⟨.int (g i),H,I.tok _,⟨_,rfl⟩,q⟩
theorem un_neg:UnR X (unaryOp .USub) (rU fun i=>.int (-i)):=unI fun _ _ _ _ _ q=>neg_int q
end
section
variable {X:Cx} {a b c:Expr} {ta tb tc:TE} {pos:Pos}
theorem zoo {pins:List 010} {σ:St} {H:Hp} {s:Shared} {Q:VK} {k k':Bool} (I:Inv X pins σ H s) (q:Q (.bl k) H) (e:k=k'):EP X pins σ Q (.bool k') s:=by
 subst e;exact ⟨.bl k,H,I,rfl,q⟩
theorem zlk:OpR X (compareOp .Lt) (rI0 fun i j=>.bl (decide (i < j))):=opB0 fun _ _ _ _ _ _ _ q=>lt_int q
theorem zm0:OpR X (compareOp .LtE) (rI0 fun i j=>.bl (decide (i<=j))):=opB0 fun _ _ _ _ _ _ _ q=>le_int q
theorem zuC:OpR X (compareOp .Gt) (rI0 fun i j=>.bl (decide (j < i))):=opB0 fun _ _ _ _ _ _ _ q=>gt_int q
theorem op_isN:OpR X (compareOp .Is) (fun x y H Q=>y=.non/\Q (.bl (decide (x=.non))) H):=by
 intro pins s σ H x y v u Q I rx ry h;obtain ⟨rfl,q⟩:=h;cases ry;refine is_none_gen (zoo I q ?_)
 cases x<;>first
  | (cases rx;rfl)
  | (obtain ⟨t,rfl⟩:=rx;rfl)
theorem op_notN:OpR X (compareOp .IsNot) (fun x y H Q=>y=.non/\Q (.bl (!decide (x=.non))) H):=by
 intro pins s σ H x y v u Q I rx ry h;obtain ⟨rfl,q⟩:=h;cases ry;refine isnot_none_gen (zoo I q ?_)
 cases x<;>first
  | (cases rx;rfl)
  | (obtain ⟨t,rfl⟩:=rx;rfl)
theorem OpR.or {f:Value->Value->Sem Value} {r r':R2} (h:OpR X f r) (h':OpR X f r'):OpR X f (fun x y H Q=>r x y H Q\/r' x y H Q):=by
 intro pins s σ H x y v u Q I rx ry q;rcases q with q | q
 .exact h pins s σ H x y v u Q I rx ry q
 .exact h' pins s σ H x y v u Q I rx ry q
theorem zr9 (b:Expr) {op:CmpOp} (h:op≠.In:=by decide) (h2:op≠.NotIn:=by decide):behindInMarks op b=false:=by
 have e1:(op==CmpOp.In)=false:=by cases op<;>first | rfl | exact absurd rfl h
 have e2:(op==CmpOp.NotIn)=false:=by cases op<;>first | rfl | exact absurd rfl h2
 cases b<;>simp[behindInMarks,e1,e2]
theorem zpd {op:CmpOp} {r:R2} (ho:OpR X (compareOp op) r) (ha:PE X a ta) (hb:PE X b tb) (hm:behindInMarks op b=false):PE X (.Compare a [op] [b] pos) (tOp r ta tb):=by
 intro pins s σ H Q I h;exact wpAny_Compare1 (binT ha hb I h fun v u s2 x y H2 I2 rx ry q=>ho pins s2 σ H2 x y v u Q I2 rx ry q) hm
def zr6 (t:TE):TT:=fun σ H Q=>t σ H fun x H'=>∃k,x=.bl k/\Q k H'
theorem zpR {op:CmpOp} {r:R2} (ho:OpR X (compareOp op) r) (ha:PE X a ta) (hb:PE X b tb) (hm:behindInMarks op b=false):PT X (.Compare a [op] [b] pos) (zr6 (tOp r ta tb)):=by
 intro pins s σ H Q I h;refine wpAny_isTrue_Compare1 (thn 066 fun v s1 w1=>?_) hm;obtain ⟨x,H1,I1,r1,q1⟩:=w1;refine thn (hb pins s1 σ H1 _ I1 q1) fun u s2 w2=>?_
 obtain ⟨y,H2,I2,r2,q2⟩:=w2;refine thn (ho pins s2 σ H2 x y v u _ I2 r1 r2 q2) fun c s3 w3=>?_
 obtain ⟨z,H3,I3,r3,k,e,q3⟩:=w3;subst e;cases r3;exact wpAny_truthy_bool ⟨H3,I3,q3⟩
def zly (r r':R2) (ta tb tc:TE):TE:=fun σ H Q=>ta σ H fun x H1=>tb σ H1 fun y H2=>r x y H2 fun z H3=>∃k,z=.bl k/\
 (if k=true then tc σ H3 fun w' H4=>r' y w' H4 Q else Q (.bl false) H3)
theorem znk {op op':CmpOp} {r r':R2} (ho:OpR X (compareOp op) r) (ho':OpR X (compareOp op') r') (ha:PE X a ta) (hb:PE X b tb) (hc:PE X c tc)
  (hm:lastMarks [op,op'] [b,c]=false:=by with_unfolding_all rfl):PE X (.Compare a [op,op'] [b,c] pos) (zly r r' ta tb tc):=by
 intro pins s σ H Q I h;refine Compare_chain (thn 066 fun v s1 w1=>?_) hm;obtain ⟨x,H1,I1,r1,q1⟩:=w1;refine chain_link (thn (hb pins s1 σ H1 _ I1 q1) fun u s2 w2=>?_);obtain ⟨y,H2,I2,r2,q2⟩:=w2;refine thn (ho pins s2 σ H2 x y v u _ I2 r1 r2 q2) fun d s3 w3=>?_
 obtain ⟨z,H3,I3,r3,k,e,q3⟩:=w3;subst e;cases r3;refine wpAny_truthy_bool ?_
 cases k with
 | false=>exact ite_ff ⟨.bl false,H3,I3,rfl,q3⟩
 | true=>exact ite_tt (chain_last (thn (hc pins s3 σ H3 _ I3 q3) fun w' s4 ⟨z',H4,I4,r4,q4⟩=>ho' pins s4 σ H4 y z' u w' Q I4 r2 r4 q4))
theorem zn5 {op op':CmpOp} {r r':R2} (ho:OpR X (compareOp op) r) (ho':OpR X (compareOp op') r') (ha:PE X a ta) (hb:PE X b tb) (hc:PE X c tc)
  (hm:lastMarks [op,op'] [b,c]=false:=by with_unfolding_all rfl):PT X (.Compare a [op,op'] [b,c] pos) (zr6 (zly r r' ta tb tc)):=by
 intro pins s σ H Q I h;refine isTrue_chain (thn 066 fun v s1 w1=>?_) hm;obtain ⟨x,H1,I1,r1,q1⟩:=w1;refine test_link (thn (hb pins s1 σ H1 _ I1 q1) fun u s2 w2=>?_);obtain ⟨y,H2,I2,r2,q2⟩:=w2;refine thn (ho pins s2 σ H2 x y v u _ I2 r1 r2 q2) fun d s3 w3=>?_
 obtain ⟨z,H3,I3,r3,k,e,q3⟩:=w3;subst e;cases r3;refine wpAny_truthy_bool ?_
 cases k with
 | false=>
  obtain ⟨k',e',q'⟩:=q3
  cases e'
  exact ite_ff ⟨H3,I3,q'⟩
 | true=>
  refine ite_tt (test_last (thn (hc pins s3 σ H3 _ I3 q3) fun w' s4 ⟨z',H4,I4,r4,q4⟩=>thn (ho' pins s4 σ H4 y z' u w' _ I4 r2 r4 q4) fun d' s5 hx__=>?_));obtain ⟨z2,H5,I5,r5,k2,e2,q5⟩:=hx__;subst e2;cases r5;exact wpAny_truthy_bool ⟨H5,I5,q5⟩
def TruV (K:PySem.W.Frag) (x:V) (H:Hp) (k:Bool):Prop:=
 match x with
 | .non=>k=false
 | .bl b=>k=b
 | .int i=>k=(i != 0)
 | .str y=>y.length<=sizeLine/\k=((y.length:Int) != 0)
 | .byt y=>y.size<=sizeLine/\k=((y.size:Int) != 0)
 | .ref p=>(∃xs,SqL K H p xs/\k=!xs.isEmpty)\/(∃xs,SqT K H p xs/\k=!xs.isEmpty)\/∃kvs,H p=some (.dK kvs)/\k=!kvs.isEmpty
 | _=>False
theorem zk0 {κ:Type} {kvs:List (κ×V)} {vs:List (κ×Value)} (r:KV kvs vs):(!vs.isEmpty)=!kvs.isEmpty:=by
 cases r<;>rfl
theorem zhg {xs:List V} {its:List Value} (r:Vals xs its):(!its.toArray.isEmpty)=!xs.isEmpty:=by
 cases r<;>simp
theorem zhi:(sizeLine:Nat) < 2 ^ 63:=by rw[sizeLine_eq];decide
theorem zsQ:TruR X (fun x H Q=>∃k,TruV X.K x H k/\Q k H):=by
 intro pins s σ H x v Q I rx h;obtain ⟨k,e,q⟩:=h;have hl:=zhi;have hs:sizeLine=16777216:=sizeLine_eq
 cases x with
 | non=>
  cases rx;have e':k=false:=e;subst e';exact truthy_none ⟨H,I,q⟩
 | bl b=>
  cases rx;have e':k=b:=e;subst e';exact wpAny_truthy_bool ⟨H,I,q⟩
 | int i=>
  obtain ⟨t,rfl⟩:=rx;have e':k=(i != 0):=e;subst e';exact PySem.P.truthy_int ⟨H,I,q⟩
 | str y=>
  obtain ⟨t,rfl⟩:=rx;obtain ⟨hy,e'⟩:y.length<=sizeLine/\k=((y.length:Int) != 0):=e;subst e';exact PySem.P.truthy_str ∅ ⟨H,I.tok _,q⟩
 | byt y=>
  obtain ⟨t,rfl⟩:=rx;obtain ⟨hy,e'⟩:y.size<=sizeLine/\k=((y.size:Int) != 0):=e;subst e';exact PySem.W.truthy_bytes ∅ ⟨H,I.tok _,q⟩
 | ref p=>
  cases rx;have e':(∃xs,SqL X.K H p xs/\k=!xs.isEmpty)\/(∃xs,SqT X.K H p xs/\k=!xs.isEmpty)\/∃kvs,H p=some (.dK kvs)/\k=!kvs.isEmpty:=e;rcases e' with ⟨xs,hx,e'⟩ | ⟨xs,hx,e'⟩ | ⟨kvs,hx,e'⟩
  .subst e';obtain ⟨its,r,pl,hz⟩:=I.list hx;have hlen:=r.length;exact wpAny_truthy_list pl.isList (by simp only[List.size_toArray];omega) ⟨H,I.tok _,by rw[zhg r];exact q⟩
  .subst e';obtain ⟨its,r,pl,hz⟩:=I.tuple hx;have hlen:=r.length;exact truthy_tuple pl (by simp only[List.size_toArray];omega) ⟨H,I.tok _,by rw[zhg r];exact q⟩
  .subst e';obtain ⟨hz,hS,vs,r,m⟩:kvs.length<=sizeLine/\(p==sysModules)=false/\∃vs,KV kvs vs/\s.heap.DictOf (zi7 X.prog X.w) p vs:=I.hok p _ hx;have hlen:kvs.length=vs.length:=Paired.length r;exact wpAny_truthy_dict hS m ∅ ⟨H,I.tok _,by rw[zk0 r];exact q⟩
 | _=>exact (show False from e).elim
theorem znA (ha:PE X a ta) (he:∀whole,isTrue a X.env whole=(do let v <-whole;standAt a.pos;holding [v] (truthy v))) :
  PT X a (fun σ H Q=>ta σ H fun x H'=>∃k,TruV X.K x H' k/\Q k H'):=by
 intro pins s σ H Q I h;exact isTrue_plain (thn 066 fun v s1 ⟨x,H1,I1,r1,q1⟩=>zsQ pins s1 σ H1 x v Q I1 r1 q1) (he _)
theorem zgf {x:V} {us:List Value} (r:Vals [x] us):∃u,us=[u]/\RelV x u:=by
 cases r with
 | cons r1 r2=>cases r2;exact ⟨_,rfl,r1⟩
theorem zsX {x y:V} {us:List Value} (r:Vals [x,y] us):∃u w',us=[u,w']/\RelV x u/\RelV y w':=by
 cases r with
 | cons r1 r2=>
  cases r2 with
  | cons r3 r4=>cases r4;exact ⟨_,_,rfl,r1,r3⟩
theorem zmR (hc:X.calm=true):CallR X (.builtin "max") (fun xs H Q=>∃i j,xs=[.int i,.int j]/\Q (.int (if j > i then j else i)) H):=by
 intro pins s σ H xs us Q I r h;obtain ⟨i,j,rfl,q⟩:=h;obtain ⟨u,w',rfl,⟨t,rfl⟩,⟨t',rfl⟩⟩:=zsX r;refine max_two_ints (I.ok.hd hc) fun h' tk k=>⟨_,H,I.kept k, ?_,q⟩
 by_cases hj:j > i
 .rw[if_pos hj,if_pos hj];exact ⟨_,rfl⟩
 .rw[if_neg hj,if_neg hj];exact ⟨_,rfl⟩
theorem zlD:CallR X (.type "int") (fun xs H Q=>(∃i,xs=[.int i]/\Q (.int i) H)\/∃k,xs=[.bl k]/\Q (.int (if k then 1 else 0)) H):=by
 intro pins s σ H xs us Q I r h;rcases h with ⟨i,rfl,q⟩ | ⟨k,rfl,q⟩
 .obtain ⟨u,rfl,t,rfl⟩:=zgf r;exact call_int_int ⟨.int i,H,I,⟨_,rfl⟩,q⟩
 .obtain ⟨u,rfl,r1⟩:=zgf r;cases r1;exact call_int_bool ⟨.int (if k then 1 else 0),H,I.tok _,⟨_,rfl⟩,q⟩
end
section
variable {prog:Program} {w:World} {A:Around} {E:Value->Shared->Prop} {s:Shared} {K:PySem.W.Frag} {x dx C f:Addr} {mA:Str->Option Value} {name:Str} {v:Value}
end
section
variable {P:Program} {w:World} {H H':Hp} {h h':Heap} {a C dx:Addr} {fs fs':List (Str×V)}
end
section
variable {X:Cx} {pins:List (Addr×Obj)} {σ:St} {H:Hp} {s:Shared} {a C dx:Addr} {fs:List (Str×V)} {f:Str} {v:V} {A:Around} {E:Value->Shared->Prop}
end
section
variable {X:Cx} {o e value:Expr} {f:Str} {pos pos' tpos:Pos} {ta tv:TE}
end
section
variable {X:Cx} {pins:List (Addr×Obj)} {σ:St} {H:Hp} {s:Shared} {A:Around} {E:Value->Shared->Prop} {Q:Value->Shared->Prop} {c:Value} {b:Bool}
end
structure Room (k:Nat) (A:Around):Prop where
 hd:A.handled=none
 dp:A.depth+3 * k+5 < recursionLimit
 un:A.units+16 * k+200 < cLine
theorem Room.mono {j k:Nat} {A:Around} (r:Room k A) (h:j<=k):Room j A:=⟨r.hd,by have:=r.dp;omega,by have:=r.un;omega⟩
theorem Room.deeper {k:Nat} {A:Around} (r:Room (k+1) A) (env:Env):Room k (A.deeper env):=
 ⟨r.hd,by have:=r.dp;show A.depth+1+3 * k+5 < _;omega,by have:=r.un;show A.units+3+16 * k+200 < _;omega⟩
theorem Room.depth {k:Nat} {A:Around} (r:Room k A):A.depth < recursionLimit:=by have:=r.dp;omega
theorem Room.units {k:Nat} {A:Around} (r:Room k A):A.units+64 < cLine:=by have:=r.un;omega
def tNil:TA:=fun _ H Q=>Q [] H
def zhQ (ta:TE) (tr:TA):TA:=fun σ H Q=>ta σ H fun x H1=>tr σ H1 fun xs H2=>Q (x::xs) H2
section
variable {X:Cx} {e:Expr} {es:List Expr} {te:TE} {t:TA} {pos:Pos}
theorem ze4:PA X [] tNil:=fun _ _ _ _ H Q I h=>Calls.spliced_nil ⟨[],H,I,.nil,h⟩
theorem zdW (ha:PE X e te) (hr:PA X es t) (hs:starEach (e::es) X.env=034::starEach es X.env:=by rfl):PA X (e::es) (zhQ te t):=by
 intro pos pins s σ H Q I h;rw[hs]
 show wpAny _ _ (spliced (034::backTo pos (starEach es X.env))) _ _ s
 refine Calls.spliced_cons (thn 066 fun u s1 hx__=>?_);obtain ⟨x,H1,I1,r1,q1⟩:=hx__;exact thn (hr pos pins s1 σ H1 _ I1 q1) fun us s2 ⟨xs,H2,I2,r2,q2⟩=>⟨x::xs,H2,I2,.cons r1 r2,q2⟩
def tTup (t:TA):TE:=fun σ H Q=>t σ H fun xs H1=>xs.length<=sizeLine/\∀p,H1 p=none->Q (.ref p) (upd H1 p (.tup xs))
def tLst (t:TA):TE:=fun σ H Q=>t σ H fun xs H1=>xs.length<=sizeLine/\∀p,H1 p=none->Q (.ref p) (upd H1 p 098)
theorem zrC {x1} (h:PA X es t):PE X (.Tuple es x1 pos) (tTup t):=by
 intro pins s σ H Q I hq;refine wpAny_Tuple_spliced (thn (h pos pins s σ H _ I hq) fun us s1 ⟨xs,H1,I1,r,z,q⟩=>⟨by rw[<-r.length];exact z, ?_⟩);have hf:H1 s1.heap.objs.size=none:=I1.hok.fresh 022;refine ⟨.ref s1.heap.objs.size,upd H1 s1.heap.objs.size (.tup xs),I1.laid (t':=s1.toks) (fun b u e=>Heap.get?_push_of_some _ e) 022 ?_,rfl,q _ hf⟩;exact ⟨z,us,r,⟨_,Heap.get?_push_size _ rfl,rfl,_,rfl⟩⟩
theorem zsO (h:PA X es t):PE X (.List es pos) (tLst t):=by
 intro pins s σ H Q I hq;refine wpAny_List_spliced (thn (h pos pins s σ H _ I hq) fun us s1 ⟨xs,H1,I1,r,z,q⟩=>⟨by rw[<-r.length];exact z, ?_⟩);have hf:H1 s1.heap.objs.size=none:=I1.hok.fresh 022;refine ⟨.ref s1.heap.objs.size,upd H1 s1.heap.objs.size 098,I1.laid (t':=s1.toks) (fun b u e=>Heap.get?_push_of_some _ e) 022 ?_,rfl,q _ hf⟩;exact ⟨z,us,0,r,Heap.get?_push_size _ rfl⟩
end
abbrev Sp:=List V->Hp->VK->XK->Prop
abbrev CXT:=List Env->Hp->Shared->XK->Value->Shared->Prop
structure Env0 (P:Program) (w:World) (K:PySem.W.Frag) (mg:Str->Option Value) (base:Heap) (A:Around) (outer:List Env) (s:Shared) (H:Hp):Prop where
 frames:A.frames=some outer
 mod:Mod K mg base
 bs:∀b o,base.get? b=some o->s.heap.get? b=some o/\H b=none
 bsz:base.objs.size<=s.heap.objs.size
 funs:s.heap.FunFrames base outer
 frf:∀b∈frs outer,H b=none
 hok:HOk P w H s.heap
 bare:AllBare s.gens
def CE (outer:List Env) (P:Program) (w:World) (H:Hp) (s:Shared) (Q:VK) (u:Value) (s':Shared):Prop:=
 ∃v H',s'.os=s.os/\AllBare s'.gens/\Un (frs outer) [] H H' s.heap s'.heap/\HOk P w H' s'.heap/\RelV v u/\Q v H'
def CR (CX:CXT) (outer:List Env) (P:Program) (w:World) (H:Hp) (s:Shared) (Q:VK) (E:XK) (r:Result) (s':Shared):Prop:=
 match r with
 | .ok (.ret u)=>CE outer P w H s Q u s'
 | .ok _=>False
 | .error e=>CX outer H s E e s'
structure FnOk (P:Program) (w:World) (K:PySem.W.Frag) (mg:Str->Option Value) (base:Heap) (CX:CXT) (k:Nat) (f:Addr) (fd:FuncData) (ps:List Str) (sp:Sp):Prop where
 len:∀vs H Q E,sp vs H Q E->vs.length=ps.length
 run:∀(A:Around) (outer:List Env) (s:Shared) (H:Hp) (args:Args) (us:List Value) (vs:List V) (Q:VK) (E:XK),Room k A->Env0 P w K mg base A outer s H->BindsTo s fd args (ps.zip us)->Vals vs us->sp vs H Q E->
  codeAny (model P w) A (.call (.ref f) args) (CR CX outer P w H s Q E) s
section
variable {X:Cx} {pins:List (Addr×Obj)} {σ:St} {H:Hp} {s s':Shared}
theorem Inv.env0 (I:Inv X pins σ H s):Env0 X.prog X.w X.K X.mg X.base X.A X.stack s H:=
 ⟨I.ok.frames,I.ok.mod,I.bs,Nat.le_trans I.ok.bsz I.sz,I.stack,I.stkFree,I.hok,I.bare⟩
theorem Inv.after {Q:VK} {u:Value} (I:Inv X pins σ H s) (h:CE X.stack X.prog X.w H s Q u s'):EP X pins σ Q u s':=by
 obtain ⟨v,H',os,bare,un,hok,r,q⟩:=h;obtain ⟨hh,g,d,t,os'⟩:=s';obtain rfl:os'=s.os:=os;exact ⟨v,H',I.call (h':=hh) (g':=g) (d':=d) (t':=t) (ch:=[]) un hok bare (fun b z=>absurd z (by simp)),r,q⟩
end
def zqJ (sp:Sp) (dvs:List V) (E:XK) (t:TA):TE:=fun σ H Q=>t σ H fun vs H1=>sp (vs++dvs) H1 Q E
def Binds (K:PySem.W.Frag) (fd:FuncData) (ps:List Str) (ds:List Value):Prop:=
 ∀(s:Shared) (us:List Value),K.In s.heap->(us++ds).length=ps.length->BindsTo s fd ⟨us,[]⟩ (ps.zip (us++ds))
theorem Binds.all {K:PySem.W.Frag} {fd:FuncData} {ps:List Str} (h:∀us:List Value,us.length=ps.length->bindArgs fd ⟨us,[]⟩=pure (ps.zip us)):Binds K fd ps []:=fun s us _ hl=>by
 rw[List.append_nil] at hl ⊢;exact .of_eq (h us hl)
def zie (CX:CXT) (X:Cx) (E:XK):Prop:=∀(pins:List 010) (σ:St) (H:Hp) (s:Shared) (e:Value) (s':Shared),Inv X pins σ H s->CX X.stack H s E e s'->X.xe e s'
section
variable {X:Cx} {CX:CXT} {k:Nat} {f C:Addr} {fd:FuncData} {ps:List Str} {sp:Sp} {dvs:List V} {ds:List Value} {E:XK} {x m:Str} {p pos apos:Pos} {e o:Expr} {es:List Expr} {ta:TE} {t:TA}
theorem zrj {pins:List 010} {σ:St} {H:Hp} {s:Shared} {Q:VK} {us:List Value} {vs:List V} (F:FnOk X.prog X.w X.K X.mg X.base CX k f fd ps sp) (hr:Room k X.A) (hb:Binds X.K fd ps ds) (hd:Vals dvs ds) (hx:zie CX X E)
  (I:Inv X pins σ H s) (r:Vals vs us) (h:sp (vs++dvs) H Q E):wpAny 000 X.A (call (.ref f) us) (EP X pins σ Q) X.xe s:=by
 have r2:Vals (vs++dvs) (us++ds):=r.append hd;have hl:(us++ds).length=ps.length:=by rw[<-r2.length];exact F.len _ _ _ _ h
 refine wpAny_call (codeAny_mono (F.run X.A X.stack s H ⟨us,[]⟩ (us++ds) (vs++dvs) Q E hr I.env0 (hb s us I.kIn hl) r2 h) fun r s' hq=>?_)
 cases r with
 | error e=>exact hx pins σ H s e s' I hq
 | ok fl=>
  cases fl with
  | ret u=>exact I.after hq
  | next=>exact False.elim hq
  | brk=>exact False.elim hq
  | cont=>exact False.elim hq
theorem zqf (F:FnOk X.prog X.w X.K X.mg X.base CX k f fd ps sp) (hr:Room k X.A) (hg:Gl X x) (hm:X.mg x=some (.ref f)) (hk:PySem.W.keepIn X.K (.ref f)=true) (hb:Binds X.K fd ps ds) (hd:Vals dvs ds) (hx:zie CX X E)
  (ha:PA X (e::es) t) (hdb:065=false:=by decide) (he:starEach (e::es) X.env=034::starEach es X.env:=by rfl) (hpl:(backTo pos (starEach es X.env)).any (·.1)=false:=by rfl) :
  PE X 0008 (zqJ sp dvs E t):=by
 intro pins s σ H Q I h;refine wpAny_Call_Name_kw (zlR I hg hm ?_ hdb);refine PySem.W.callWith_K (h₀:=X.base) I.ok.mod.kin hk (thn (ha pos pins s σ H _ I h) fun us s1 ⟨vs,H1,I1,r,q⟩=>⟨I1.kIn, ?_⟩) he hpl;exact zrj F hr hb hd hx I1 r q
end
def PK (X:Cx) (kws:List Keyword) (t:TA):Prop:=
 ∀(pos:Pos) (pins:List 010) (s:Shared) (σ:St) (H:Hp) (Q:List V->Hp->Prop),Inv X pins σ H s->t σ H Q->wpAny 000 X.A (evalAll ((backToKw pos (keywordEach kws X.env)).map (·.2))) (AP X pins σ Q) X.xe s
section
variable {X:Cx} {CX:CXT} {k:Nat} {f C:Addr} {fd:FuncData} {ps ks:List Str} {sp:Sp} {E:XK} {x m:Str} {p pos apos kpos:Pos} {e o:Expr} {es:List Expr} {kws:List Keyword} {te ta:TE} {t tk:TA} {nm:Option Str}
theorem zsL:PK X [] tNil:=fun _ _ _ _ H Q I h=>wpAny_evalAll_nil ⟨[],H,I,.nil,h⟩
theorem zp5 (ha:PE X e te) (hr:PK X kws t):PK X (⟨nm,e,kpos⟩::kws) (zhQ te t):=by
 intro pos pins s σ H Q I h
 show wpAny _ _ (evalAll ((do let v <-eval e X.env;standAt pos;pure v)::(backToKw pos (keywordEach kws X.env)).map (·.2))) _ _ s
 refine wpAny_evalAll_cons (wpAny_bind (thn 066 fun u s1 ⟨x,H1,I1,r1,q1⟩=>wpAny_bind (wpAny_standAt (wpAny_pure ?_))));exact thn (hr pos pins s1 σ H1 _ I1 q1) fun us s2 ⟨xs,H2,I2,r2,q2⟩=>⟨x::xs,H2,I2,.cons r1 r2,q2⟩
variable {g:List Value->List Value->List Value} {gV:List V->List V->List V}
end
structure zam (N P:List Str) (sc:Scope):Prop where
 kind:sc.kind=.function
 co:sc.isCoroutine=false
 gen:sc.isGenerator=false
 nd:N.Nodup
 pre:N.take P.length=P
 par:∀x∈P,sc.names.lookup x=some .local\/sc.names.lookup x=some .cell
 nofree:∀y∈sc.names,y.2≠.free
theorem ziE {kindOf:Str->Option NameKind} {x:Str}:∀{binds:List (Str×Value)} {m:Str->Option Value},(∀v,(x,v)∉binds)->bindL kindOf binds m x=m x
 | [],_,_=>rfl
 | (n,v)::r,m,h=>by
  unfold bindL;rw[ziE fun w hw=>h w (List.mem_cons_of_mem _ hw)];split
  .have:x≠n:=by rintro rfl;exact h v List.mem_cons_self
   simp[this]
  .rfl
theorem ziT {kindOf:Str->Option NameKind} {x:Str}:∀{binds:List (Str×Value)} {m:Str->Option Value},(∀v,(x,v)∉binds)->bindC kindOf binds m x=m x
 | [],_,_=>rfl
 | (n,v)::r,m,h=>by
  unfold bindC;rw[ziT fun w hw=>h w (List.mem_cons_of_mem _ hw)];split
  .rfl
  .have:x≠n:=by rintro rfl;exact h v List.mem_cons_self
   simp[this]
theorem ziR {kindOf:Str->Option NameKind} {x:Str} {v:Value}:∀{P:List Str} {vs:List Value} {i:Nat} {m:Str->Option Value},P.Nodup->P[i]? = some x->vs[i]? = some v->kindOf x=some .local->
  bindL kindOf (P.zip vs) m x=some v
 | [],_,_,_,_,h,_,_=>by simp at h
 | _::_,[],_,_,_,_,h,_=>by simp at h
 | p::P,w::vs,0,m,nd,h1,h2,hk=>by
  simp at h1 h2;subst h1;subst h2
  show bindL kindOf ((p,w)::P.zip vs) m p=_
  unfold bindL;rw[ziE fun v hv=>(List.nodup_cons.mp nd).1 (List.of_mem_zip hv).1,if_pos hk];simp
 | p::P,w::vs,i+1,m,nd,h1,h2,hk=>by
  show bindL kindOf ((p,w)::P.zip vs) m x=_
  unfold bindL;exact ziR (i:=i) (List.nodup_cons.mp nd).2 (by simpa using h1) (by simpa using h2) hk
theorem ziZ {kindOf:Str->Option NameKind} {x:Str} {v:Value}:∀{P:List Str} {vs:List Value} {i:Nat} {m:Str->Option Value},P.Nodup->P[i]? = some x->vs[i]? = some v->kindOf x≠some .local->
  bindC kindOf (P.zip vs) m x=some v
 | [],_,_,_,_,h,_,_=>by simp at h
 | _::_,[],_,_,_,_,h,_=>by simp at h
 | p::P,w::vs,0,m,nd,h1,h2,hk=>by
  simp at h1 h2;subst h1;subst h2
  show bindC kindOf ((p,w)::P.zip vs) m p=_
  unfold bindC;rw[ziT fun v hv=>(List.nodup_cons.mp nd).1 (List.of_mem_zip hv).1,if_neg hk];simp
 | p::P,w::vs,i+1,m,nd,h1,h2,hk=>by
  show bindC kindOf ((p,w)::P.zip vs) m x=_
  unfold bindC;exact ziZ (i:=i) (List.nodup_cons.mp nd).2 (by simpa using h1) (by simpa using h2) hk
def start (N:List Str) (vs:List V):St:=vs.map some++List.replicate (N.length - vs.length) none
def cxOf (CX:CXT) (P:Program) (w:World) (K:PySem.W.Frag) (mg:Str->Option Value) (base:Heap) (N:List Str) (qual:Str) (scope:Scope) (f:Addr) (cd:Value) (A:Around) (outer:List Env) (s:Shared) (H:Hp) (E:XK):Cx where
 prog:=P
 w:=w
 K:=K
 mg:=mg
 base:=base
 A:=A.deeper 0009
 N:=N
 s₀:=s
 H₀:=H
 env:=envOfC qual scope s.heap.objs.size f cd
 outer:=outer
 stack:=envOfC qual scope s.heap.objs.size f cd::outer
 ex:=[]
 calm:=true
 fn:=fun _=>true
 pn:=[]
 xe:=fun e s'=>wpAny (model P w) (A.deeper 0009) (leaving 0009 e) (fun _ s''=>CX outer H s E e s'') (fun e' s''=>CX outer H s E e' s'') s'
theorem zkm {sc:Scope} {n:Nat} {x:Str} (h:sc.names.lookup x=some .cell):∃c,(cellsFrom n sc.names []).lookup x=some c:=by
 have q:=PySem.W.cellsFrom_some sc.names n [] (.inl h);exact Option.isSome_iff_exists.mp q
theorem zln {CX:CXT} {P:Program} {w:World} {K:PySem.W.Frag} {mg:Str->Option Value} {base:Heap} {N ps:List Str} {qual:Str} {scope:Scope} {f:Addr} {cd:Value} {A:Around} {outer:List Env} {s s1:Shared} {H:Hp} {E:XK} {us:List Value} {vs:List V}
  (S:zam N ps scope) (hd:A.handled=none) (e0:Env0 P w K mg base A outer s H) (hl:vs.length=ps.length) (r:Vals vs us)
  (x:InCallC s s.heap.objs.size (bindL (envOfC qual scope s.heap.objs.size f cd).kindOf (ps.zip us) fun _=>none) (cellsFrom (s.heap.objs.size+1) scope.names []) (bindC (envOfC qual scope s.heap.objs.size f cd).kindOf (ps.zip us) fun _=>none) s1) :
  Inv (cxOf CX P w K mg base N qual scope f cd A outer s H E) [] (start N vs) H s1:=by
 have hpl:ps.length<=N.length:=by have:=congrArg List.length S.pre;rw[List.length_take] at this;omega
 obtain ⟨h1,tk,rfl,hk⟩:=x.done;have noA:∀b:Addr,b∉(cxOf CX P w K mg base N qual scope f cd A outer s H E).ex:=fun b z=>absurd (show b∈([]:List Addr) from z) (by simp)
 refine ⟨⟨e0.mod,S.kind,rfl,rfl,Nat.le_refl _,fun y z c h1 h2=>?_,fun y hy=>?_,fun y c _ h=>?_,fun _=>hd,Around.frames_deeper e0.frames,.inr ⟨rfl,rfl⟩,fun b z=>absurd z (noA b),e0.bs,e0.bsz,fun b _ _=>noA b,fun b z=>absurd z (noA b),e0.funs,e0.frf⟩,
  rfl,e0.bare,Un.kept hk,⟨_,x.toInCall.ns,fun i y v h1 h2 h3=>?_⟩,fun y c h=>⟨_,x.cell y c h⟩,e0.hok.fresh 022,fun y c h=>?_,fun p hp=>absurd (show p∈([]:List 010) from hp) (by simp),e0.hok.kept hk, ?_⟩
 .exact name_of_addr x.apart (PySem.mem_of_lookup h1) (PySem.mem_of_lookup h2)
 .have hy:scope.names.lookup y=some .cell\/scope.names.lookup y=some .free:=hy;rcases hy with hy | hy
  .exact zkm hy
  .exact absurd rfl (S.nofree _ (PySem.mem_of_lookup hy))
 .exact Nat.le_of_lt (x.above y c (PySem.mem_of_lookup h))
 .have hi:i < vs.length:=by
   unfold start at h2
   by_cases hi:i < vs.length
   .exact hi
   .rw[List.getElem?_append_right (by simpa using hi)] at h2;rw[List.getElem?_replicate] at h2;split at h2<;>cases h2
  have ha:vs[i]? = some v:=by
   unfold start at h2;rw[List.getElem?_append_left (by simpa using hi),List.getElem?_map] at h2
   cases e:vs[i]? with
   | none=>rw[e] at h2;cases h2
   | some a=>rw[e] at h2;cases h2;rfl
  obtain ⟨u,hu,rv⟩:=r.get ha;have hp:ps[i]? = some y:=by
   rw[<-S.pre,List.getElem?_take_of_lt ∅];exact h1
  have ndP:ps.Nodup:=by rw[<-S.pre];exact S.nd.sublist (List.take_sublist _ _)
  refine ⟨u,rv, ?_⟩;rcases S.par y (List.mem_of_getElem? hp) with k | k
  .exact .inl ⟨k,ziR ndP hp hu k⟩
  .obtain ⟨c,e⟩:=zkm (n:=s.heap.objs.size+1) k;refine .inr ⟨.inl k,c,e, ?_⟩;have q:=x.cell y c e;rw[ziZ ndP hp hu (by show scope.names.lookup y≠_;rw[k];decide)] at q;exact q
 .exact e0.hok.fresh (Nat.le_of_lt (x.above y c (PySem.mem_of_lookup h)))
 .unfold start
  show _=N.length
  rw[List.length_append,List.length_map,List.length_replicate];omega
theorem zsB {CX:CXT} {P:Program} {w:World} {K:PySem.W.Frag} {mg:Str->Option Value} {base:Heap} {k:Nat} {f:Addr} {name qual:Str} {params:Arguments} {body:List Stmt} {scope:Scope} {dV kV doc pm cdv ct oc:Value} {an od:Option Addr}
  {osl:Array (Option Value)} {N ps:List Str} {sp:Sp} (lk:K.lookup f=some ⟨oc,od,.func (PySem.W.fnOf name qual params body scope dV kV doc pm an cdv ct),osl⟩) (hcd:PySem.W.codeIn K cdv qual=true) (S:zam N ps scope)
  (len:∀vs H Q E,sp vs H Q E->vs.length=ps.length)
  (hbody:∀(A:Around) (outer:List Env) (s:Shared) (H:Hp) (vs:List V) (Q:VK) (E:XK),Room k (A.deeper (envOfC qual scope s.heap.objs.size f cdv))->sp vs H Q E->
   ∃t,PSs (cxOf CX P w K mg base N qual scope f cdv A outer s H E) body t/\t { nx:=fun _ H'=>Q .non H',rt:=Q } (start N vs) H) :
  FnOk P w K mg base CX (k+1) f (PySem.W.fnOf name qual params body scope dV kV doc pm an cdv ct) ps sp:=by
 refine ⟨len,fun A outer s H args us vs Q E hr e0 hb r hsp=>?_⟩;have hl:=len _ _ _ _ hsp;have KX:K.In s.heap:=e0.mod.kin.keeps fun b o e=>(e0.bs b o e).1
 have lim:s.heap.NoLimit:=e0.mod.nolimit.keeps fun b o e=>(e0.bs b o e).1
 have hkind:∀y∈ps.zip us,scope.names.lookup y.1=some .local\/(scope.names.lookup y.1=some .cell/\((cellsFrom (s.heap.objs.size+1) scope.names []).lookup y.1).isSome=true):=fun ⟨n,v⟩ hy=>by
  rcases S.par n (List.of_mem_zip hy).1 with q | q
  .exact .inl q
  .exact .inr ⟨q,PySem.W.cellsFrom_some _ _ _ (.inl q)⟩
 refine codeAny_call_function hr.depth (KX _ _ lk) rfl S.co S.gen rfl (PySem.W.codeRec_of KX hcd) (hb _ _ _ _ ?_);refine wpAny_newFunctionEnv_cells S.kind hkind fun env he s1 x=>?_
 subst he;refine ⟨lim.keeps x.toInCall.keep,codeAny_func ?_⟩;obtain ⟨t,ht,hq⟩:=hbody A outer s H vs Q E (hr.deeper _) hsp;have I:Inv (cxOf CX P w K mg base N qual scope f cdv A outer s H E) [] (start N vs) H s1:=zln S hr.hd e0 hl r x;refine wpAny_mono (ht [] s1 (start N vs) H _ I hq) (fun fl s' hs=>?_) fun e s' hs=>hs
 have fin:∀{σ':St} {H':Hp} {v:V} {u:Value},Inv (cxOf CX P w K mg base N qual scope f cdv A outer s H E) [] σ' H' s'->RelV v u->Q v H'->CE outer P w H s Q u s':=
  fun {σ' H' v u} J rv q=>⟨v,H',J.os,J.bare,J.base,J.hok,rv,q⟩
 cases fl with
 | ret u=>
  obtain ⟨v,σ',H',J,rv,q⟩:=hs;exact fin J rv q
 | next=>
  obtain ⟨σ',H',J,q⟩:=hs;exact fin (v:=V.non) (u:=Value.none) J rfl q
 | brk=>
  obtain ⟨_,_,_,q⟩:=hs;exact False.elim q
 | cont=>
  obtain ⟨_,_,_,q⟩:=hs;exact False.elim q
section
variable {X:Cx} {x:Str} {p pos:Pos} {e:Expr} {es:List Expr} {t:TA} {id T:String} {r:List V->Hp->VK->Prop}
def tCB (r:List V->Hp->VK->Prop) (t:TA):TE:=fun σ H Q=>t σ H fun vs H1=>r vs H1 Q
theorem zn8 (hc:CallR X (.builtin id) r) (hg:Gl X x) (hm:X.mg x=none) (hv:bootBuiltins x=some (.builtin id)) (ha:PA X (e::es) t) (hn:x≠"__name__":=by decide) (hdb:065=false:=by decide)
  (he:starEach (e::es) X.env=034::starEach es X.env:=by rfl) (hpl:(backTo pos (starEach es X.env)).any (·.1)=false:=by rfl):PE X 0008 (tCB r t):=by
 intro pins s σ H Q I h;refine wpAny_Call_Name_kw (zgs I hg hm hv ?_ hn hdb);exact PyProof.Rows.callWith_builtin1 (thn (ha pos pins s σ H _ I h) fun us s1 ⟨vs,H1,I1,r1,q1⟩=>hc pins s1 σ H1 vs us Q I1 r1 q1) he hpl
theorem zmU (hc:CallR X (.type T) r) (hg:Gl X x) (hm:X.mg x=none) (hv:bootBuiltins x=some (.type T)) (ha:PA X (e::es) t) (hn:x≠"__name__":=by decide) (hdb:065=false:=by decide)
  (he:starEach (e::es) X.env=034::starEach es X.env:=by rfl) (hpl:(backTo pos (starEach es X.env)).any (·.1)=false:=by rfl):PE X 0008 (tCB r t):=by
 intro pins s σ H Q I h;refine wpAny_Call_Name_kw (zgs I hg hm hv ?_ hn hdb);exact PyProof.Rows.callWith_type1 (thn (ha pos pins s σ H _ I h) fun us s1 ⟨vs,H1,I1,r1,q1⟩=>hc pins s1 σ H1 vs us Q I1 r1 q1) he hpl
end
end L2
namespace HT
open PySem PyProof.Rows
section
open PySem.SeqAt
open PySem.AutoSeq1 (wpAny_loadPart')
open PySem.MeetsSeq PySem.MeetsSeq2 PySem.MeetsSeq3
end
section
variable {prog:Program} {w:World} {A:Around} {E:Value->Shared->Prop} {s:Shared}
def sIx (n d:Nat):Option Int->Nat
 | none=>d
 | some v=>if v < 0 then (v+(n:Int)).toNat else min v.toNat n
theorem zrc (n d:Nat) (hd:d<=n) (o:Option Int):sIx n d o<=n:=by
 cases o with
 | none=>exact hd
 | some v=>
  show (if v < 0 then (v+(n:Int)).toNat else min v.toNat n)<=n
  by_cases hv:v < 0
  .rw[if_pos hv];omega
  .rw[if_neg hv];exact Nat.min_le_right _ _
theorem zlP (v:Int) (n d:Nat):(if v < 0 then max (v+(n:Int)) 0 else min v (n:Int))=((sIx n d (some v):Nat):Int):=by
 show (if v < 0 then max (v+(n:Int)) 0 else min v (n:Int))=(((if v < 0 then (v+(n:Int)).toNat else min v.toNat n):Nat):Int)
 by_cases hv:v < 0
 .simp only[if_pos hv];omega
 .simp only[if_neg hv];omega
theorem zkZ (lo hi:Option Int) (n:Nat):Builtin.Slice.sliceAdjust lo hi 1 (n:Int)=(((sIx n 0 lo:Nat):Int),((sIx n n hi:Nat):Int)):=by
 have h1:¬((1:Int) < 0):=by omega
 unfold Builtin.Slice.sliceAdjust;simp only[h1,if_false];refine Prod.ext ?_ ?_
 .cases lo with
  | none=>rfl
  | some v=>exact zlP v n 0
 .cases hi with
  | none=>rfl
  | some v=>exact zlP v n n
theorem zkA (i j:Nat):Builtin.Slice.slicePlaces (i:Int) (j:Int) 1=j - i:=by
 unfold Builtin.Slice.slicePlaces;have h1:(1:Int) > 0:=by omega
 simp only[h1,if_true,Int.ediv_one];split<;>omega
theorem zhe {v:Value} {o:Option Int} {Q:Option Int->Shared->Prop} (p:IsPart v o) (h:Q o s):wpAny 052 A (Builtin.Slice.slicePartIndex v) Q E s:=by
 cases p with
 | none=>exact slicePart_none h
 | int i t=>exact slicePart_int h
theorem zf3 {sl:Addr} {vl vu:Value} {lo hi:Option Int} {n:Nat} {Q:Int×Int×Nat->Shared->Prop} (hs:s.heap.IsSliceOf sl vl vu .none) (pl:IsPart vl lo) (pu:IsPart vu hi)
  (h:Q (((sIx n 0 lo:Nat):Int),1,sIx n n hi - sIx n 0 lo) s):wpAny 052 A (Builtin.Slice.sliceApplied (.ref sl) (pure (n:Int))) Q E s:=by
 obtain ⟨os,hos,hcs,hds⟩:=id hs;unfold Builtin.Slice.sliceApplied Builtin.Slice.sliceFields;refine wpAny_bind (wpAny_bind (wpAny_field hos hds (x:=vl) rfl (wpAny_bind (wpAny_field hos hds (x:=vu) rfl (wpAny_bind (wpAny_field hos hds (x:=.none) rfl (wpAny_pure ?_)))))));refine wpAny_bind (slicePart_none ?_)
 show wpAny _ _ (if ((1:Int)==0)=true then _ else _) _ _ s
 rw[if_neg (by decide)];refine wpAny_bind (zhe pl (wpAny_bind (zhe pu (wpAny_bind (wpAny_pure ?_)))))
 show wpAny _ _ (match Builtin.Slice.sliceAdjust lo hi 1 (n:Int) with | (lo,hi)=>pure (lo,(1:Int),Builtin.Slice.slicePlaces lo hi 1)) _ _ s
 rw[zkZ lo hi n]
 show wpAny _ _ (pure (((sIx n 0 lo:Nat):Int),(1:Int),Builtin.Slice.slicePlaces ((sIx n 0 lo:Nat):Int) ((sIx n n hi:Nat):Int) 1)) _ _ s
 rw[zkA];exact wpAny_pure h
theorem znz (xs:Array Value) (i k:Nat):((List.range k).filterMap fun (m:Nat)=>xs[((i:Int)+(m:Int) * 1).toNat]?).toArray=((xs.toList.drop i).take k).toArray:=by
 have e:(fun (m:Nat)=>xs[((i:Int)+(m:Int) * 1).toNat]?)=fun m=>xs[i+m]? := by
  funext m
  have:((i:Int)+(m:Int) * 1).toNat=i+m:=by omega
  rw[this]
 rw[e]
 have:=pick_run xs i k
 rw[List.filterMap_map] at this;have e2:((fun x=>xs[x]?) ∘ fun x=>i+x)=fun m=>xs[i+m]? := rfl
 rw[e2] at this;rw[this]
theorem zfA {t sl:Addr} {items:Array Value} {vl vu:Value} {lo hi:Option Int} {Q:Value->Shared->Prop} (ht:IsTup s.heap t items) (hs:s.heap.IsSliceOf sl vl vu .none) (pl:IsPart vl lo) (pu:IsPart vu hi)
  (hw:¬(sIx items.size 0 lo=0/\sIx items.size items.size hi=items.size))
  (h:Q (.ref s.heap.objs.size) { s with heap:=s.heap.push { cls:=.type "tuple",data:=.seq ((items.toList.drop (sIx items.size 0 lo)).take 076).toArray } })
  (hsz:items.size<=sizeLine):wpAny 052 A (getItem (.ref t) (.ref sl)) Q E s:=by
 have htake:sizeOk (.seq ((items.toList.drop (sIx items.size 0 lo)).take 076).toArray):=by
  show ((items.toList.drop (sIx items.size 0 lo)).take 076).toArray.size<=sizeLine
  rw[List.size_toArray,List.length_take,List.length_drop,Array.length_toList];omega
 have hj:sIx items.size items.size hi<=items.size:=zrc _ _ 022 hi;obtain ⟨os,hos,hcs,hds⟩:=id hs;have hTs:s.TypeIs (.ref sl) "slice":=⟨os,hos,hcs⟩;unfold getItem
 try with_reducible refine wpAny_holding ?_
 first | refine wpAny_bind (wpAny_pure ?_) | skip
 refine wpAny_bind (wpAny_sequenceKey ht.typeIs (by decide) ?_);refine wpAny_bind (wpAny_callSpecial?_slot (name:=Str.ofString "__getitem__") ht.typeIs PyProof.Rows.slot_tuple_getitem
  (wpAny_call_entry PyProof.Rows.slot_tuple_getitem ht.typeIs entry_tuple_getitem ?_ (args_tuple_getitem _ _)))
 show wpAny _ _ (Builtin.Tuple.tupleItemsOf (.ref t) >>= _) _ _ s
 refine wpAny_bind (tupleItemsOf_ ht ?_);refine wpAny_bind (wpAny_typeOf hTs ?_);rw[if_pos (by decide)];refine wpAny_bind (zf3 hs pl pu ?_);have hno:¬((((sIx items.size 0 lo:Nat):Int)==0&&(1:Int)==1&&076==items.size)=true):=by
  intro q;rw[Bool.and_eq_true,Bool.and_eq_true] at q;have q1:((sIx items.size 0 lo:Nat):Int)=0:=eq_of_beq q.1.1;have q2:sIx items.size items.size hi - sIx items.size 0 lo=items.size:=eq_of_beq q.2;exact hw ⟨by omega,by omega⟩
 show wpAny _ _ (if (((sIx items.size 0 lo:Nat):Int)==0&&(1:Int)==1&&076==items.size)=true then _ else _) _ _ s
 rw[if_neg hno,znz]
 first
  | exact wpAny_bind (m:=Builtin.Tuple.tupleExact _) (wpAny_newObj_type (wpAny_pure ⟨_,rfl,wpAny_pure h⟩) htake)
  | exact wpAny_bind (m:=Builtin.Tuple.tupleExact _) (wpAny_newObj_type (wpAny_bind (wpAny_pure (wpAny_pure ⟨_,rfl,wpAny_pure h⟩))) htake)
  | exact wpAny_bind (wpAny_bind (m:=Builtin.Tuple.tupleExact _) (wpAny_newObj_type (wpAny_pure (wpAny_pure ⟨_,rfl,wpAny_pure h⟩)) htake))
  | exact wpAny_bind (wpAny_bind (m:=Builtin.Tuple.tupleExact _) (wpAny_newObj_type (wpAny_pure ⟨_,rfl,wpAny_pure h⟩) htake))
end
end HT
namespace L2
open PySem PySem.Spec PyProof.Rows
abbrev TO:=St->Hp->(Option Int->Hp->Prop)->Prop
def PO (X:Cx) (e:Option Expr) (t:TO):Prop:=
 ∀(pins:List 010) (s:Shared) (σ:St) (H:Hp) (Q:Option Int->Hp->Prop),Inv X pins σ H s->t σ H Q->
  wpAny 000 X.A (evalPart e X.env) (fun u s'=>∃o H',Inv X pins σ H' s'/\IsPart u o/\Q o H') X.xe s
def zpO:TO:=fun _ H Q=>Q none H
def zu7 (t:TE):TO:=fun σ H Q=>t σ H fun x H1=>∃i,x=.int i/\Q (some i) H1
theorem zfE {ns:List Int}:∀{us:List Value},Vals 014 us->IntsAre us ns:=by
 induction ns with
 | nil=>intro us r;rw[List.map_nil] at r;cases r;exact .nil
 | cons n ns ih=>
  intro us r;rw[List.map_cons] at r
  cases r with
  | cons r1 r2=>
   obtain ⟨t,e⟩:=r1;subst e;exact .cons n t (ih r2)
section
variable {X:Cx} {e:Expr} {te:TE} {lo hi:Option Expr} {tl th:TO} {pos p2:Pos}
theorem zpy:PO X none zpO:=by
 intro pins s σ H Q I h;rw[evalPart_none];exact wpAny_pure ⟨none,H,I,.none,h⟩
theorem zpH (h:PE X e te):PO X (some e) (zu7 te):=by
 intro pins s σ H Q I hw;rw[evalPart_some];refine thn (h pins s σ H _ I hw) fun u s1 hx__=>?_
 obtain ⟨x,H1,I1,r1,q1⟩:=hx__;obtain ⟨i,rfl,q⟩:=q1;obtain ⟨t,rfl⟩:=r1;exact ⟨some i,H1,I1,.int i t,q⟩
def SlR (X:Cx) (r:V->Option Int->Option Int->Hp->VK->Prop):Prop:=
 ∀(pins:List 010) (s:Shared) (σ:St) (H:Hp) (x:V) (v vl vu:Value) (lo hi:Option Int) (sl:Addr) (Q:VK),Inv X pins σ H s->RelV x v->s.heap.IsSliceOf sl vl vu .none->IsPart vl lo->IsPart vu hi->r x lo hi H Q->
  ∃T id,typeLookup (.type T) "__getitem__"=pure (some (.builtin id))/\s.TypeIs v T/\wpAny 000 X.A (getItem v (.ref sl)) (EP X pins σ Q) X.xe s
theorem SlR.or {r r':V->Option Int->Option Int->Hp->VK->Prop} (h:SlR X r) (h':SlR X r'):SlR X (fun x lo hi H Q=>r x lo hi H Q\/r' x lo hi H Q):=by
 intro pins s σ H x v vl vu lo hi sl Q I rx hs pl pu q;rcases q with q | q
 .exact h pins s σ H x v vl vu lo hi sl Q I rx hs pl pu q
 .exact h' pins s σ H x v vl vu lo hi sl Q I rx hs pl pu q
def tSl (r:V->Option Int->Option Int->Hp->VK->Prop) (te:TE) (tl th:TO):TE:=fun σ H Q=>te σ H fun x H1=>tl σ H1 fun l H2=>th σ H2 fun u H3=>r x l u H3 Q
theorem znH {r:V->Option Int->Option Int->Hp->VK->Prop} (hr:SlR X r) (he:PE X e te) (hl:PO X lo tl) (hu:PO X hi th):PE X (.Subscript e (.Slice lo hi none p2) pos) (tSl r te tl th):=by
 intro pins s σ H Q I h;refine Subscript_ (thn (he pins s σ H _ I h) fun v s1 hx__=>?_);obtain ⟨x,H1,I1,r1,q1⟩:=hx__;refine wpAny_Slice (thn (hl pins s1 σ H1 _ I1 q1) fun vl s2 ⟨l,H2,I2,pl,q2⟩=>thn (hu pins s2 σ H2 _ I2 q2) fun vu s3 hx__=>?_);obtain ⟨u,H3,I3,pu,q3⟩:=hx__;rw[evalPart_none];refine wpAny_pure ?_;have I4:Inv X pins σ H3 { s3 with heap:=s3.heap.push { cls:=.type "slice",data:=.fields #[vl,vu,.none] } }:=I3.kept (t':=s3.toks) fun b ob q=>Heap.get?_push_of_some _ q
 obtain ⟨T,id,hT,ht,hg⟩:=hr pins { s3 with heap:=s3.heap.push { cls:=.type "slice",data:=.fields #[vl,vu,.none] } } σ H3 x v vl vu l u s3.heap.objs.size Q I4 r1 (Heap.IsSliceOf.new ..) pl pu q3
 show wpAny 000 X.A (subscriptTail e (.Slice lo hi none p2) v (.ref s3.heap.objs.size)) (EP X pins σ Q) X.xe { s3 with heap:=s3.heap.push { cls:=.type "slice",data:=.fields #[vl,vu,.none] } }
 exact tail_any (ops:=[.ref s3.heap.objs.size,v]) ht hT hg (by with_unfolding_all rfl)
def cutV (xs:List V) (lo hi:Option Int):List V:=(xs.drop (HT.sIx xs.length 0 lo)).take 0004
theorem zgx (xs:List V) (lo hi:Option Int):(cutV xs lo hi).length<=xs.length:=by
 unfold cutV;rw[List.length_take,List.length_drop];omega
def rSlT (K:PySem.W.Frag):V->Option Int->Option Int->Hp->VK->Prop:=fun x lo hi H Q=>∃a xs,x=.ref a/\SqT K H a xs/\
 ¬(HT.sIx xs.length 0 lo=0/\HT.sIx xs.length xs.length hi=xs.length)/\∀p,H p=none->Q (.ref p) (upd H p (.tup (cutV xs lo hi)))
theorem zqS:SlR X (rSlT X.K):=by
 intro pins s σ H x v vl vu lo hi sl Q I rx hs pl pu h;obtain ⟨a,xs,rfl,hx,hw,q⟩:=h;cases rx;obtain ⟨its,r,ht,hz⟩:=I.tuple hx;have hlen:its.toArray.size=xs.length:=by rw[List.size_toArray];exact r.length.symm
 refine ⟨"tuple",_,PyProof.Rows.slot_tuple_getitem.lookup,ht.typeIs, ?_⟩;refine HT.zfA ht hs pl pu (by rw[hlen];exact hw) ?_ (by rw[hlen];exact hz);rw[hlen];refine ⟨.ref s.heap.objs.size,_,I.laid (t':=s.toks) (o:=.tup (cutV xs lo hi)) (fun b ob q=>Heap.get?_push_of_some _ q) 022 ?_,rfl,q _ (I.hok.fresh 022)⟩;exact ⟨Nat.le_trans (zgx xs lo hi) hz,_,(r.drop (HT.sIx xs.length 0 lo)).take 0004,IsTup.new _ _⟩
end
def ixN (n:Nat) (i:Int):Option Nat:=if 0<=i then (if i < n then some i.toNat else none) else if -(n:Int)<=i then some (i+n).toNat else none
def atI {α:Type} (xs:List α) (i:Int):Option α:=(ixN xs.length i).bind fun j=>xs[j]?
theorem zlg {n:Nat} {i:Int} {j:Nat} (h:ixN n i=some j):seqIndex? i n=some j/\j < n/\-(n:Int)<=i/\i < n:=by
 unfold ixN at h
 by_cases h0:0<=i
 .rw[if_pos h0] at h
  by_cases h1:i < n
  .rw[if_pos h1] at h;have e:i.toNat=j:=Option.some.inj h;exact ⟨by rw[seqIndex_of h0 h1,e],by omega,by omega,h1⟩
  .rw[if_neg h1] at h;cases h
 .rw[if_neg h0] at h
  by_cases h1:-(n:Int)<=i
  .rw[if_pos h1] at h;have e:(i+n).toNat=j:=Option.some.inj h;exact ⟨by rw[seqIndex_neg ∅ h1,e],by omega,h1,by omega⟩
  .rw[if_neg h1] at h;cases h
theorem zjm {α:Type} {xs:List α} {i:Int} {v:α} (h:atI xs i=some v):∃j,seqIndex? i xs.length=some j/\xs[j]? = some v/\j < xs.length/\-(xs.length:Int)<=i/\i < xs.length:=by
 unfold atI at h
 cases e:ixN xs.length i with
 | none=>rw[e] at h;cases h
 | some j=>
  rw[e] at h;obtain ⟨h1,h2,h3,h4⟩:=zlg e;exact ⟨j,h1,h,h2,h3,h4⟩
theorem zpb {α:Type} {xs:List α} {j:Nat} {v:α} (h:xs[j]? = some v):atI xs (j:Int)=some v:=by
 have hj:j < xs.length:=(List.getElem?_eq_some_iff.mp h).1;have e:ixN xs.length (j:Int)=some j:=by
  unfold ixN;rw[if_pos ∅,if_pos ∅];simp
 unfold atI;rw[e];exact h
def zlA (b:Expr):Prop:=∀o i,subscripted b false o i=operate [o,i] (getItem o i)
def IxR (X:Cx) (r:R2):Prop:=
 ∀(value slice:Expr) (pins:List 010) (s:Shared) (σ:St) (H:Hp) (x y:V) (v u:Value) (Q:VK),Inv X pins σ H s->RelV x v->RelV y u->r x y H Q->
  subscripted slice false v u=operate [v,u] (getItem v u)->wpAny 000 X.A (subscriptTail value slice v u) (EP X pins σ Q) X.xe s
def MtR (X:Cx) (id:String) (r:V->List V->Hp->VK->Prop):Prop:=
 ∀(pins:List 010) (s:Shared) (σ:St) (H:Hp) (x:V) (xs:List V) (v:Value) (us:List Value) (Q:VK),Inv X pins σ H s->RelV x v->Vals xs us->r x xs H Q->
  wpAny 000 X.A (call (.builtin id) (v::us)) (EP X pins σ Q) X.xe s
section
variable {X:Cx} {a b:Expr} {ta tb:TE} {pos:Pos}
theorem IxR.or {r r':R2} (h:IxR X r) (h':IxR X r'):IxR X (fun x y H Q=>r x y H Q\/r' x y H Q):=by
 intro value slice pins s σ H x y v u Q I rx ry q hs;rcases q with q | q
 .exact h value slice pins s σ H x y v u Q I rx ry q hs
 .exact h' value slice pins s σ H x y v u Q I rx ry q hs
theorem zuN {r:R2} (hr:IxR X r) (ha:PE X a ta) (hb:PE X b tb) (hs:zlA b):PE X (.Subscript a b pos) (tOp r ta tb):=by
 intro pins s σ H Q I h;exact Subscript_ (binT ha hb I h fun v u s2 x y H2 I2 rx ry q=>hr a b pins s2 σ H2 x y v u Q I2 rx ry q (hs _ _))
def rIxL (K:PySem.W.Frag):R2:=fun x y H Q=>∃p xs i v,x=.ref p/\y=.int i/\SqL K H p xs/\atI xs i=some v/\Q v H
def rIxT (K:PySem.W.Frag):R2:=fun x y H Q=>∃p xs i v,x=.ref p/\y=.int i/\SqT K H p xs/\atI xs i=some v/\Q v H
def rIxS:R2:=fun x y H Q=>∃z i c,x=.str z/\y=.int i/\z.length<=sizeLine/\atI z.cps.toList i=some c/\Q (.str ⟨#[c]⟩) H
theorem ix_list:IxR X (rIxL X.K):=by
 intro value slice pins s σ H x y v u Q I rx ry h hs;obtain ⟨p,xs,i,z,rfl,rfl,hq,he,q⟩:=h;cases rx;obtain ⟨t,rfl⟩:=ry;obtain ⟨its,r,pl,hz⟩:=I.list hq;obtain ⟨j,h1,h2,h3,h4,h5⟩:=zjm he;obtain ⟨w,ew,rw'⟩:=r.get h2;have hl:=r.length;have hn:=zhi;have fin:EP X pins σ Q w s:=⟨z,H,I,rw',q⟩
 by_cases h0:0<=i
 .have hj:i.toNat=j:=by
   rw[seqIndex_of h0 h5] at h1;exact Option.some.inj h1
  exact item_listR pl.isList h0 ∅ (by rw[hj];simpa using ew) fin hs
 .have hj:(i+(its.toArray.size:Int)).toNat=j:=by
   rw[seqIndex_neg ∅ h4] at h1;rw[List.size_toArray,<-hl];exact Option.some.inj h1
  exact subscriptTail_builtinR (x:=w) pl.isList.typeIs slot_list_getitem.lookup
   (wpAny_getItem_list_neg (Q:=fun r s'=>r=w/\EP X pins σ Q r s') pl.isList ∅ (by rw[List.size_toArray]<;>omega) ∅ (by rw[hj];simpa using ew) ⟨rfl,fin⟩) hs
theorem ix_tup:IxR X (rIxT X.K):=by
 intro value slice pins s σ H x y v u Q I rx ry h hs;obtain ⟨p,xs,i,z,rfl,rfl,hq,he,q⟩:=h;cases rx;obtain ⟨t,rfl⟩:=ry;obtain ⟨its,r,pl,hz⟩:=I.tuple hq;obtain ⟨j,h1,h2,h3,h4,h5⟩:=zjm he;obtain ⟨w,ew,rw'⟩:=r.get h2;have hl:=r.length;have hn:=zhi;have fin:EP X pins σ Q w s:=⟨z,H,I,rw',q⟩;exact subscriptTail_builtinR (x:=w) pl.typeIs slot_tuple_getitem.lookup
  (getItem_tuple (j:=j) (Q:=fun r s'=>r=w/\EP X pins σ Q r s') pl ∅ ∅ (by rw[List.size_toArray,<-hl];exact h1) (by simpa using ew) ⟨rfl,fin⟩) hs
theorem zr4:IxR X rIxS:=by
 intro value slice pins s σ H x y v u Q I rx ry h hs;obtain ⟨z,i,c,rfl,rfl,hz,he,q⟩:=h;obtain ⟨t,rfl⟩:=rx;obtain ⟨t',rfl⟩:=ry;obtain ⟨j,h1,h2,h3,h4,h5⟩:=zjm he;have hl:z.cps.toList.length=z.length:=by simp[Str.length]
 rw[hl] at h1 h4 h5;have hn:=zhi;exact tail_any (typeIs_str s z t) slot_str_getitem.lookup (getItem_str (c:=c) (by
  have e1:decide (i < -(2 ^ 63:Int))=false:=decide_eq_false ∅;have e2:decide (i≥2 ^ 63)=false:=decide_eq_false ∅;rw[e1,e2,Bool.or_false]) (by rw[h1];simpa using h2) ⟨.str ⟨#[c]⟩,H,I.tok _,⟨_,rfl⟩,q⟩) hs
def rIx (K:PySem.W.Frag):R2:=fun x y H Q=>rIxL K x y H Q\/rIxT K x y H Q\/rIxS x y H Q
theorem zsn:IxR X (rIx X.K):=ix_list.or (ix_tup.or zr4)
theorem zkS (its:List Value) (n j:Nat) (u:Value):Obj.mapSeq (·.setIfInBounds j u) { cls:=.type "list",data:=.seq its.toArray n }={ cls:=.type "list",data:=.seq (its.set j u).toArray n }:=by
 simp[Obj.mapSeq]
theorem Inv.lst {pins:List 010} {σ:St} {H:Hp} {s:Shared} {p:Addr} {xs:List V} (I:Inv X pins σ H s) (h:H p=some 098) :
  ∃(its:List Value) (n:Nat),Vals xs its/\s.heap.get? p=some { cls:=.type "list",data:=.seq its.toArray n }/\xs.length<=sizeLine:=by
 obtain ⟨z,its,n,r,e⟩:=I.hok p _ h;exact ⟨its,n,r,e,z⟩
theorem Inv.lstUpd {pins:List 010} {σ:St} {H:Hp} {s:Shared} {p:Addr} {xs ys:List V} {its its':List Value} {n n':Nat} {f:Obj->Obj} (I:Inv X pins σ H s) (h:H p=some 098)
  (ho:s.heap.get? p=some { cls:=.type "list",data:=.seq its.toArray n }) (hf:f { cls:=.type "list",data:=.seq its.toArray n }={ cls:=.type "list",data:=.seq its'.toArray n' }) (r:Vals ys its') (hz:ys.length<=sizeLine) (t:Nat) :
  Inv X pins σ (upd H p (.lst ys)) { s with heap:=s.heap.update p f,toks:=t }:=by
 have e:(s.heap.update p f).get? p=some { cls:=.type "list",data:=.seq its'.toArray n' }:=by
  rw[Heap.get?_update_self f ho (by rw[hf]<;>rfl),hf]
 refine I.write (x:=p) (e:=p) (by rw[h];trivial) (.inl rfl) (fun b u hb q=>(Heap.get?_update_other _ _ (Ne.symm hb)).trans q) ⟨_,e⟩ ?_;exact ⟨hz,its',n',r,e⟩
def zsF:V->V->V->Hp->(Hp->Prop)->Prop:=fun o i v H Q=>∃p xs k j,o=.ref p/\i=.int k/\H p=some 098/\ixN xs.length k=some j/\Q (upd H p (.lst (xs.set j v)))
theorem zn7:PSet X zsF:=by
 intro pins s σ H o i v ov iv u Q I ro ri rv h;obtain ⟨p,xs,k,j,rfl,rfl,hp,hj,q⟩:=h;cases ro;obtain ⟨t,rfl⟩:=ri;obtain ⟨its,n,r,ho,hz⟩:=I.lst hp;obtain ⟨h1,h2,h3,h4⟩:=zlg hj;have hl:=r.length;have hn:=zhi;have I':Inv X pins σ (upd H p (.lst (xs.set j v))) { s with heap:=s.heap.update p (Obj.mapSeq (·.setIfInBounds j u)) }:=
  I.lstUpd hp ho (zkS its n j u) (r.set rv j) (by rw[List.length_set];exact hz) s.toks
 by_cases h0:0<=k
 .have hk:k.toNat=j:=by
   rw[seqIndex_of h0 h4] at h1;exact Option.some.inj h1
  exact PySem.W.ki_setAt ho h0 ∅ (by rw[List.size_toArray,<-hl];exact h4) (by rw[hk];exact ⟨_,I',q⟩)
 .have hk:(k+(its.toArray.size:Int)).toNat=j:=by
   rw[seqIndex_neg ∅ h3] at h1;rw[List.size_toArray,<-hl];exact Option.some.inj h1
  exact PySem.W.ki_setBack ho ∅ (by rw[List.size_toArray,<-hl];exact h3) ∅ (by rw[hk];exact ⟨_,I',q⟩)
theorem zij (lo hi:Option Int) (n:Nat):(sliceBounds lo hi none n).1=((HT.sIx n 0 lo:Nat):Int)/\(sliceBounds lo hi none n).2.1=((HT.sIx n n hi:Nat):Int)/\(sliceBounds lo hi none n).2.2=1:=by
 refine ⟨?_, ?_,rfl⟩
 .cases lo with
  | none=>simp[sliceBounds,HT.sIx]
  | some i=>
   simp only[sliceBounds,HT.sIx,Option.getD_none,show (1:Int) > 0 by decide,if_true]
   by_cases h:i < 0
   .simp only[h,if_true]<;>omega
   .simp only[h,if_false]<;>omega
 .cases hi with
  | none=>simp[sliceBounds,HT.sIx]
  | some i=>
   simp only[sliceBounds,HT.sIx,Option.getD_none,show (1:Int) > 0 by decide,if_true]
   by_cases h:i < 0
   .simp only[h,if_true]<;>omega
   .simp only[h,if_false]<;>omega
theorem zhm (its:List Value) (lo hi:Option Int):slicePick its.toArray lo hi none=((its.drop (HT.sIx its.length 0 lo)).take (HT.sIx its.length its.length hi - HT.sIx its.length 0 lo)).toArray:=by
 obtain ⟨h1,h2,h3⟩:=zij lo hi its.toArray.size;unfold slicePick;rw[h1,h2,h3];simp only[sliceRange_one,pick_run,List.size_toArray]<;>rfl
def rSlL (K:PySem.W.Frag):V->Option Int->Option Int->Hp->VK->Prop:=fun x lo hi H Q=>∃a xs,x=.ref a/\SqL K H a xs/\∀p,H p=none->Q (.ref p) (upd H p (.lst (cutV xs lo hi)))
theorem sl_list:SlR X (rSlL X.K):=by
 intro pins s σ H x v vl vu lo hi sl Q I rx hs pl pu h;obtain ⟨a,xs,rfl,hx,q⟩:=h;cases rx;obtain ⟨its,r,ht,hz⟩:=I.list hx;have hlen:=r.length;refine ⟨"list",_,slot_list_getitem.lookup,ht.isList.typeIs, ?_⟩;refine wpAny_getItem_list_slice ht.isList hs pl pu .none (by simp) ?_ (by rw[List.size_toArray]<;>omega);rw[zhm,<-hlen];refine ⟨.ref s.heap.objs.size,_,I.laid (t':=s.toks) (o:=.lst (cutV xs lo hi)) (fun b ob q=>Heap.get?_push_of_some _ q) 022 ?_,rfl,q _ (I.hok.fresh 022)⟩;exact ⟨Nat.le_trans (zgx xs lo hi) hz,_,0,(r.drop (HT.sIx xs.length 0 lo)).take 0004,Heap.get?_push_size _ rfl⟩
theorem zhX:CallR X (.builtin "len") (fun xs H Q=>∃p ys,xs=[.ref p]/\(SqL X.K H p ys\/SqT X.K H p ys)/\Q (.int ys.length) H):=by
 intro pins s σ H xs us Q I r h;obtain ⟨p,ys,rfl,hq,q⟩:=h;obtain ⟨u,rfl,rx⟩:=zgf r;cases rx;have hn:=zhi;rcases hq with hq | hq
 .obtain ⟨its,r',pl,hz⟩:=I.list hq;have hlen:=r'.length;exact Calls.call_len_list pl.isList (by simp only[List.size_toArray]<;>omega) ⟨.int ys.length,H,I.tok _,⟨s.toks+1,by rw[List.size_toArray,hlen]⟩,q⟩
 .obtain ⟨its,r',pl,hz⟩:=I.tuple hq;have hlen:=r'.length;exact len_tuple pl (by simp only[List.size_toArray]<;>omega) ⟨.int ys.length,H,I.tok _,⟨s.toks+1,by rw[List.size_toArray,hlen]⟩,q⟩
theorem ziJ:CallR X (.type "list") (fun xs H Q=>∃p ys,xs=[.ref p]/\(SqL X.K H p ys\/SqT X.K H p ys)/\∀l,H l=none->Q (.ref l) (upd H l (.lst ys))):=by
 intro pins s σ H xs us Q I r h;obtain ⟨p,ys,rfl,hq,q⟩:=h;obtain ⟨u,rfl,rx⟩:=zgf r;cases rx;have fin:∀(its:List Value),Vals ys its->ys.length<=sizeLine->∀(h':Heap) (c':Nat),(∀b o',s.heap.get? b=some o'->h'.get? b=some o')->
   h'.get? s.heap.objs.size=some { cls:=.type "list",dict:=none,data:=.seq its.toArray c',slots:=#[] }->EP X pins σ Q (.ref s.heap.objs.size) { s with heap:=h' }:=fun its r' hz h' c' kp e=>
  ⟨.ref s.heap.objs.size,_,I.laid (t':=s.toks) kp 022 (show ObjOk X.prog X.w _ h' _ (.lst ys) from ⟨hz,its,c',r',e⟩),rfl,q _ (I.hok.fresh 022)⟩
 rcases hq with hq | hq
 .obtain ⟨its,r',pl,hz⟩:=I.list hq;have hlen:=r'.length;obtain ⟨o,ho,hc,n,hd⟩:=pl.isList;exact call_list_seq p (.inl rfl) ho hc hd (fun h' c' kp e=>fin its r' hz h' c' kp e) (by simp only[List.size_toArray]<;>omega)
 .obtain ⟨its,r',pl,hz⟩:=I.tuple hq;have hlen:=r'.length;obtain ⟨o,ho,hc,n,hd⟩:=pl;exact call_list_seq p (.inr rfl) ho hc hd (fun h' c' kp e=>fin its r' hz h' c' kp e) (by simp only[List.size_toArray]<;>omega)
def tyV (K:PySem.W.Frag) (T:String) (x:V) (H:Hp):Prop:=match x with
 | .str _=>T="str"
 | .int _=>T="int"
 | .ref p=>(T="list"/\∃xs,SqL K H p xs)\/(T="tuple"/\∃o,K.lookup p=some o/\o.cls=.type "tuple"/\o.dict=none)\/
   (T="dict"/\((∃kvs,H p=some (.dK kvs))\/∃kvs,H p=some (.dT kvs)))\/(T="set"/\∃S n,H p=some (.set S n))
 | _=>False
theorem zoK {pins:List 010} {σ:St} {H:Hp} {s:Shared} {T:String} {x:V} {v:Value} (I:Inv X pins σ H s) (r:RelV x v) (ty:tyV X.K T x H) :
  s.TypeIs v T/\∀a,v=.ref a->∃ob,s.heap.get? a=some ob/\ob.dict=none:=by
 cases x with
 | str z=>
  obtain ⟨t,rfl⟩:=r
  cases (show T="str" from ty)
  exact ⟨typeIs_str s z t,fun _ e=>nomatch e⟩
 | int i=>
  obtain ⟨t,rfl⟩:=r
  cases (show T="int" from ty)
  exact ⟨typeIs_int s i t,fun _ e=>nomatch e⟩
 | ref p=>
  cases r;rcases ty with ⟨rfl,xs,hq⟩ | ⟨rfl,o,hk,hc,hd⟩ | ⟨rfl,hk⟩ | ⟨rfl,S,n,hk⟩
  .obtain ⟨its,_,pl,_⟩:=I.list hq;refine ⟨pl.isList.typeIs,fun a e=>?_⟩;cases e;obtain ⟨o,n,e,c,hd,_⟩:=pl;exact ⟨o,e,hd⟩
  .refine ⟨⟨o,I.kIn p o hk,hc⟩,fun a e=>?_⟩;cases e;exact ⟨o,I.kIn _ o hk,hd⟩
  .have z:∃o,s.heap.get? p=some o/\o.ExactDict:=by
    rcases hk with ⟨kvs,hk⟩ | ⟨kvs,hk⟩
    .obtain ⟨_,_,_,_,o,_,_,e,ex,_⟩:=I.hok p _ hk;exact ⟨o,e,ex⟩
    .obtain ⟨_,_,_,_,o,_,_,e,ex,_⟩:=I.hok p _ hk;exact ⟨o,e,ex⟩
   obtain ⟨o,e,ex⟩:=z;refine ⟨⟨o,e,ex.1⟩,fun a e2=>?_⟩;cases e2;exact ⟨o,e,ex.2.1⟩
  .obtain ⟨o,_,_,_,e,ex,_⟩:=I.hok p _ hk;refine ⟨⟨o,e,ex.1⟩,fun a e2=>?_⟩;cases e2;exact ⟨o,e,ex.2.1⟩
 | _=>exact False.elim ty
def tBM0 (K:PySem.W.Frag) (T:String) (r:V->List V->Hp->VK->Prop) (to:TE):TE:=fun σ H Q=>to σ H fun x H1=>tyV K T x H1/\r x [] H1 Q
def tBM (K:PySem.W.Frag) (T:String) (r:V->List V->Hp->VK->Prop) (to:TE) (t:TA):TE:=fun σ H Q=>to σ H fun x H1=>tyV K T x H1/\t σ H1 fun xs H2=>r x xs H2 Q
variable {o e:Expr} {es:List Expr} {to:TE} {t:TA} {name:Str} {apos cpos:Pos} {T id:String} {r:V->List V->Hp->VK->Prop}
theorem zqY (pa:PlainAttrs T) (slot:Slot T name id) (hty:typeOf (.builtin id)=pure (.type "method_descriptor")) (hm:MtR X id r) (ho:PE X o to)
  (hbase:attributeBase o name X.env (eval o X.env)=eval o X.env:=by rfl) (hline:(apos.endLine==cpos.line)=true:=by rfl):PE X (.Call (.Attribute o name apos) [] [] cpos) (tBM0 X.K T r to):=by
 intro pins s σ H Q I h;refine wpAny_Call_method0_late hbase hline (thn (ho pins s σ H _ I h) fun v s1 hx__=>?_);obtain ⟨x,H1,I1,r1,ty,q1⟩:=hx__;obtain ⟨h1,h2⟩:=zoK I1 r1 ty;exact ⟨T,id,pa,slot,hty,h1,h2,Calls.callWith_builtin rfl (PySem.evalArgs_none (hm pins s1 σ H1 x [] v [] Q I1 r1 .nil q1))⟩
theorem zs8 (pa:PlainAttrs T) (slot:Slot T name id) (hty:typeOf (.builtin id)=pure (.type "method_descriptor")) (hm:MtR X id r) (ho:PE X o to) (ha:PA X (e::es) t)
  (hbase:attributeBase o name X.env (eval o X.env)=eval o X.env:=by rfl)
  (hfew:((backTo cpos (starEach (e::es) X.env)).all (fun x=>!x.1)&&(backToKw cpos (keywordEach [] X.env)).all (fun x=>x.1.isSome)
   && decide ((e::es).length+([]:List Keyword).length+(if ([]:List Keyword).isEmpty then 0 else 1) < 30))=true:=by rfl)
  (hline:(apos.endLine==cpos.line)=true:=by rfl) (hs:starEach (e::es) X.env=034::starEach es X.env:=by rfl) (hplain:(backTo cpos (starEach es X.env)).any (·.1)=false:=by rfl) :
  PE X (.Call (.Attribute o name apos) (e::es) [] cpos) (tBM X.K T r to t):=by
 intro pins s σ H Q I h;refine wpAny_Call_method_late hbase hfew hline rfl (thn (ho pins s σ H _ I h) fun v s1 hx__=>?_);obtain ⟨x,H1,I1,r1,ty,q1⟩:=hx__;obtain ⟨h1,h2⟩:=zoK I1 r1 ty;refine ⟨T,id,pa,slot,hty,h1,h2, ?_⟩;have hA:=ha cpos pins s1 σ H1 _ I1 q1;rw[hs] at hA ⊢;refine Calls.callWith_builtin (by show (false || (backTo cpos (starEach es X.env)).any (·.1))=false;rw[hplain]<;>rfl) (Calls.evalArgs_plain ?_);exact thn hA fun us s2 ⟨vs,H2,I2,r2,q2⟩=>hm pins s2 σ H2 x vs v us Q I2 r1 r2 q2
end
def MtM (X:Cx) (id:String) (r:V->List V->Hp->VK->Prop):Prop:=
 ∀(pins:List 010) (s:Shared) (σ:St) (H:Hp) (x:V) (xs:List V) (v:Value) (us:List Value) (Q:VK),Inv X pins σ H s->RelV x v->Vals xs us->r x xs H Q->
  wpAny 000 X.A (call (.builtin id) (v::us)) (EP X pins σ Q) X.xe s
theorem Vals.one {x:V} {us:List Value} (h:Vals [x] us):∃u,us=[u]/\RelV x u:=by
 cases h with
 | cons r t=>cases t;exact ⟨_,rfl,r⟩
theorem Vals.reverse {xs:List V} {us:List Value} (h:Vals xs us):Vals xs.reverse us.reverse:=by
 induction h with
 | nil=>exact .nil
 | cons r t ih=>rw[List.reverse_cons,List.reverse_cons];exact Vals.append ih (.cons r .nil)
theorem Vals.rep {xs:List V} {us:List Value} (h:Vals xs us):∀k:Nat,Vals (List.replicate k xs).flatten (List.replicate k us).flatten
 | 0=>.nil
 | k+1=>by
  rw[List.replicate_succ,List.replicate_succ,List.flatten_cons,List.flatten_cons];exact Vals.append h (Vals.rep h k)
theorem ziu (its:List Value):∀(k:Nat) (acc:List Value),
  List.foldl (fun x1 x2=>x1++x2) acc.toArray (List.replicate k its.toArray)=(acc++(List.replicate k its).flatten).toArray
 | 0,acc=>by simp
 | k+1,acc=>by
  have e:acc.toArray++its.toArray=(acc++its).toArray:=by simp
  have e2:(acc++its)++(List.replicate k its).flatten=acc++(List.replicate (k+1) its).flatten:=by
   rw[List.replicate_succ,List.flatten_cons,List.append_assoc]
  rw[<-e2,<-ziu its k (acc++its),<-e,List.replicate_succ,List.foldl_cons]
section
variable {X:Cx} {pins:List (Addr×Obj)} {σ:St} {H:Hp} {s:Shared} {l b:Addr} {xs ys zs:List V}
theorem Inv.lset {its its':List Value} {n:Nat} {f:Array Value->Array Value} {t':Nat} (I:Inv X pins σ H s) (hH:H l=some 098)
  (e:s.heap.get? l=some { cls:=.type "list",data:=.seq its.toArray n }) (hf:f its.toArray=its'.toArray) (hv:Vals ys its') (hz:ys.length<=sizeLine) :
  Inv X pins σ (upd H l (.lst ys)) { s with heap:=s.heap.update l (Obj.mapSeq f),toks:=t' }:=by
 have q:=PySem.IsL.update e f;rw[hf] at q;refine I.write (x:=l) (e:=l) (by rw[hH];exact trivial) (.inl rfl) (fun b' u hb hu=>(Heap.get?_update_other s.heap (Obj.mapSeq f) (Ne.symm hb)).trans hu) ⟨_,q⟩ ?_;exact ⟨hz,its',_,hv,q⟩
theorem Inv.lnew {its:List Value} {t':Nat} (I:Inv X pins σ H s) (hv:Vals ys its) (hz:ys.length<=sizeLine) :
  Inv X pins σ (upd H s.heap.objs.size (.lst ys)) { s with heap:=s.heap.push { cls:=.type "list",data:=.seq its.toArray },toks:=t' }:=
 I.laid (fun _ _ q=>Heap.get?_push_of_some _ q) 022 ⟨hz,its,0,hv,Heap.get?_push_size _ rfl⟩
theorem Inv.fresh (I:Inv X pins σ H s):H s.heap.objs.size=none:=I.hok.fresh 022
theorem Inv.lstM (I:Inv X pins σ H s) (hH:H l=some 098):xs.length<=sizeLine/\∃(its:List Value) (n:Nat),Vals xs its/\xs.length=its.length/\s.heap.get? l=some { cls:=.type "list",data:=.seq its.toArray n }:=by
 obtain ⟨z,its,n,r,e⟩:=I.hok l _ hH;exact ⟨z,its,n,r,r.length,e⟩
theorem znX {n:Nat} (h:n<=sizeLine):Builtin.List.listTooLong n=false:=by
 unfold Builtin.List.listTooLong;exact decide_eq_false ∅
end
section
variable {X:Cx}
def zjj:V->List V->Hp->VK->Prop:=fun x vs H Q=>∃l xs y,x=.ref l/\vs=[y]/\H l=some 098/\xs.length < sizeLine/\Q .non (upd H l (.lst (xs++[y])))
theorem zhV:MtM X "list.append" zjj:=by
 intro pins s σ H x vs v us Q I rx rv h;obtain ⟨l,xs,y,rfl,rfl,hH,hz,q⟩:=h;cases rx;obtain ⟨u,rfl,ru⟩:=rv.one;obtain ⟨z,its,n,r,hl,e⟩:=I.lstM hH;refine call_meets F.slot_list_append ⟨_,e,rfl⟩ F.entry_list_append (F.args_list_append_2 _ _) (PySem.list_append l its.toArray n u (by rw[List.size_toArray];omega)) ⟨e, ?_⟩;refine ⟨.non,_,I.lset (its':=its++[u]) hH e (by simp) (r.append (.cons ru .nil)) ?_,rfl,q⟩;rw[List.length_append,List.length_singleton];omega
def rCat:R2:=fun x y H Q=>∃l b xs zs,x=.ref l/\y=.ref b/\H l=some 098/\H b=some (.lst zs)/\xs.length+zs.length<=sizeLine/\∀p,H p=none->Q (.ref p) (upd H p (.lst (xs++zs)))
theorem zrA:OpR X (binaryOp .Add) rCat:=by
 intro pins s σ H x y v u Q I rx ry h;obtain ⟨l,b,xs,zs,rfl,rfl,hH,hB,hz,q⟩:=h;cases rx;cases ry;obtain ⟨z,its,n,r,hl,e⟩:=I.lstM hH;obtain ⟨z2,its2,n2,r2,hl2,e2⟩:=I.lstM hB;refine PySem.P.add_list e e2 ?_ (by rw[List.size_toArray,List.size_toArray];omega);have ea:its.toArray++its2.toArray=(its++its2).toArray:=by simp
 rw[ea];exact ⟨.ref _,_,I.lnew (t':=s.toks) (r.append r2) (by rw[List.length_append];omega),rfl,q _ I.fresh⟩
def rRep:R2:=fun x y H Q=>∃l k xs,x=.ref l/\y=.int k/\H l=some 098/\-(2 ^ 63)<=k/\k < 2 ^ 63/\xs.length * k.toNat<=sizeLine/\
 ∀p,H p=none->Q (.ref p) (upd H p (.lst (List.replicate k.toNat xs).flatten))
theorem zqa {α:Type} (xs:List α) (k:Nat):(List.replicate k xs).flatten.length=k * xs.length:=by
 induction k with
 | zero=>simp
 | succ k ih=>rw[List.replicate_succ,List.flatten_cons,List.length_append,ih,Nat.succ_mul,Nat.add_comm]
theorem zra:OpR X (binaryOp .Mult) rRep:=by
 intro pins s σ H x y v u Q I rx ry h;obtain ⟨l,k,xs,rfl,rfl,hH,h1,h2,hz,q⟩:=h;cases rx;obtain ⟨t,rfl⟩:=ry;obtain ⟨z,its,n,r,hl,e⟩:=I.lstM hH;have hlen:its.toArray.size * k.toNat<=sizeLine:=by rw[List.size_toArray,<-hl];exact hz
 have hcap:¬its.toArray.size * k.toNat > (2 ^ 63 - 1) / 8:=by
  have:(sizeLine:Nat)<=(2 ^ 63 - 1) / 8:=by decide
  omega
 have hfit:¬(!Builtin.List.listFitsIndex k)=true:=by
  rw[fitsIndex_both h1 h2];exact Bool.false_ne_true
 have hlong:¬Builtin.List.listTooLong (its.toArray.size * k.toNat)=true:=by
  rw[znX hlen];exact Bool.false_ne_true
 have hnew:List.foldl (fun x1 x2=>x1++x2) #[] (List.replicate (if its.toArray.isEmpty=true then 0 else k.toNat) its.toArray)=(List.replicate k.toNat its).flatten.toArray:=by
  have f0:∀m:Nat,List.foldl (fun x1 x2=>x1++x2) #[] (List.replicate m its.toArray)=(List.replicate m its).flatten.toArray:=fun m=>by
   have:=ziu its m []
   rw[List.nil_append] at this;exact this
  rw[f0]
  cases its with
  | nil=>simp
  | cons a r'=>rw[if_neg (by simp)]
 refine wpAny_binaryOp_repeat_ref (T:="list") (U:="int") (by decide) ⟨_,e,rfl⟩ (fun s'=>typeIs_int s' k t) noFill_list_mul F.fills_int_mul F.slot_int_rmul repeat_list F.slot_int_index.lookup
  (call_meets F.slot_int_rmul (typeIs_int s k t) F.entry_int_rmul (F.args_int_rmul_2 _ _) (int___rmul___int_list k t l its.toArray n)
   ⟨e,rfl,⟨_,e,rfl⟩,call_meets F.slot_list_mul ⟨_,e,rfl⟩ F.entry_list_mul (F.args_list_mul_2 _ _) (AutoListH.list___mul___list_int_3 l its.toArray n k t hfit hcap hlong) ⟨e, ?_⟩⟩)
 rw[hnew];exact ⟨.ref _,_,I.lnew (t':=s.toks) (r.rep k.toNat) (by rw[zqa,Nat.mul_comm];exact hz),rfl,q _ I.fresh⟩
end
section
variable {prog:Program} {w:World} {A:Around} {E:Value->Shared->Prop} {s:Shared}
end
section
variable {X:Cx}
end
end L2
namespace Att
open PySem PySem.W PySem.Calls PyProof.Rows
theorem zgv {P:Params} {h:Heap}:∀(ns:List Int) (vs:List Value),WellAll P h vs (ns.map WData.int)->IntsAre vs ns:=by
 intro ns
 induction ns with
 | nil=>
  intro vs w;rw[List.map_nil] at w;cases w;exact .nil
 | cons n ns ih=>
  intro vs w;rw[List.map_cons] at w
  cases w with
  | cons a b=>
   cases a;exact .cons _ _ (ih _ b)
theorem zlC {l:OpenLaw} {n:Nat} (hn:l.most=some n) {P:Params} {h:Heap} {args:List WData} {vals:List Value}
  (hpre:l.row.toRowW.claim.pre args=true) (hwl:WellAll P h vals args) :
  ∃a vs ns,vals=[Value.ref a]/\args=[WData.list (ns.map WData.int)]/\h.get? a=some { cls:=.type "list",data:=.seq vs.toArray }/\IntsAre vs ns/\ns.length<=n:=by
 have hsh:WShape.hasAll [] args [.list .int]=true:=(pre_splitW hpre).1;have hc:l.pre.holds [] { args:=args }=true:=(pre_splitW hpre).2;obtain ⟨d,r,rfl,h1,h2⟩:=hasAllW_cons hsh;obtain rfl:=hasAllW_nil h2;obtain ⟨xs,rfl,h3⟩:=hasW_list h1;obtain ⟨ns,rfl⟩:=items_int h3;have hlen:ns.length<=n:=by
  unfold OpenLaw.pre at hc;have h4:(WTm.not (.lt (.lit (.int (n:Int))) (.len (.arg 0)))).holds [] { args:=[.list (ns.map .int)] }=true:=by
   have h4:=(holds_andW hc).1;rw[hn] at h4;exact h4
  have h5:=condW_of h4 (w_not (w_lt w_lit (w_len_list (w_arg rfl))));rw[List.length_map] at h5;refine Nat.le_of_not_lt fun q=>?_
  have q':(n:Int) < ((ns.length:Nat):Int):=by omega
  first
   | (rw[decide_eq_true q'] at h5;exact absurd h5 (by decide))
   | (simp at h5;omega)
 cases hwl with
 | cons w1 w2=>
  cases w2
  cases w1 with
  | list ho hall=>exact ⟨_,_,ns,rfl,rfl,ho,zgv ns _ hall,hlen⟩
theorem zm8 (l:OpenLaw) (args:List WData):l.row.toRowW.claim.post args (.bool true) args=true:=
 postW_of (r:=l.row.toRowW) (X:=(true==true))
  (show WShape.has [] (.bool true) .bool=true by first | rfl | decide | simp[WShape.has,WShape.arms,WShape.armsAll])
  (show (WTm.eq .res (.lit (.bool true))).value [] { args:=args,res:=some (.bool true),after:=args }=some (.bool (true==true)) from w_eq_bool (w_res rfl) w_lit) rfl
theorem zjk {l:OpenLaw} {n:Nat} {q:Program} {loose:List Str} {XP:(Str->Option Value)->Heap->Prop} {YP:World->Heap->Prop} {d:DefRec}
  (hn:l.most=some n) (hdf:d.params.defaults=[])
  (call:∀(w:World) (s₀ s₁:Shared) (mg mb:Str->Option Value) (fa:Addr) (o:Obj) (pm cd doc:Value) (a:Addr) (vs:List Value) (ns:List Int),
   Ground q loose [] XP w s₀ mg mb s₁.heap->YP w s₁.heap->
   s₁.heap.get? fa=some o->o.data=.func (docDef d.name d.params d.body d.scope pm cd doc)->s₁.heap.CodeRec cd d.name->mg d.name=some (.ref fa)->
   s₁.heap.get? a=some { cls:=.type "list",data:=.seq vs.toArray }->IntsAre vs ns->ns.length<=n->s₁.gens=#[]->
   codeAny (model l.prog w) callerA (.call (.ref fa) ⟨[.ref a],[]⟩) 075 s₁) :
  WalkO q loose XP YP l.row.toRowW d [] (fun f vs=>PySem.call f vs):=by
 intro w s₀ s₁ mg mb G Y fa o pm cd doc dV kV ho hd hcd hD hmg hg args vals as hpre hlay hrd hwl hlo;obtain rfl:dV=.none:=Dflts.none hD hdf;obtain rfl:kV=.none:=Dflts.noKw hD;obtain ⟨a,vs,ns,rfl,rfl,hobj,hints,hlen⟩:=zlC hn hpre hwl;refine enter_call (codeAny_mono (call w s₀ s₁ mg mb fa o pm cd doc a vs ns G Y ho (fd_plain hd) hcd hmg hobj hints hlen hg) fun r s' hq=>?_);obtain ⟨rfl,h2,h3,h4⟩:=hq;exact ⟨.inl ⟨.bool true,.bool true,[],rfl,fun _=>rfl,.bool true,zm8 l _,fun _=>⟨List.Pairwise.nil,fun _ hm=>(nomatch hm)⟩⟩,h2,h3,h4⟩
section
variable {prog:Program} {w:World} {A:Around} {E:Value->Shared->Prop} {s:Shared} {K:Frag}
end
end Att
namespace L2
open PySem PySem.Spec PyProof.Rows
theorem zgk:∀{vs:List Value} {ns:List Int},IntsAre vs ns->Vals 014 vs
 | _,_,.nil=>.nil
 | _,_,.cons n t h=>.cons ⟨t,rfl⟩ (zgk h)
def Only (H:Hp):Prop:=∀b,H b=none\/∃o xs,H b=some (.frz o 098)
theorem znh {P:Program} {w:World} {K:PySem.W.Frag} {mg mb:Str->Option Value} {CX:CXT} {k:Nat} {fa a:Addr} {fd:FuncData} {x:Str} {sp:Sp} {s₁:Shared} {vs:List Value} {ns:List Int}
  (KX:K.In s₁.heap) (hns:s₁.heap.Ns mainGlobals mg) (hb:s₁.heap.Ns builtinsNs mb) (hbb:∀x:Str,x≠"__name__"->mb x=bootBuiltins x) (hlim:s₁.heap.NoLimit) (hg:s₁.gens=#[])
  (ha:s₁.heap.get? a=some { cls:=.type "list",data:=.seq vs.toArray }) (hi:IntsAre vs ns) (hl:ns.length<=sizeLine) (hr:Room k callerA)
  (F:∀base:Heap,K.In base->base.Ns mainGlobals mg->FnOk P w K mg base CX k fa fd [x] sp) (hbind:∀(s:Shared) (u:Value),BindsTo s fd ⟨[u],[]⟩ [(x,u)])
  (hsp:∀H:Hp,Only H->SqL K H a 014->sp [.ref a] H (fun v _=>v=.bl true) fun _ _ _=>False)
  (hCX:∀H e s',CX [] H s₁ (fun _ _ _=>False) e s'->False) :
  codeAny (model P w) callerA (.call (.ref fa) ⟨[.ref a],[]⟩) 075 s₁:=by
 have rv:=zgk hi;have lenV:=hi.length
 -- from an abstract heap in which nothing but the script may be tracked
 have core:∀H:Hp,Only H->SqL K H a 014->HOk P w H s₁.heap->(∀b,H b≠none->b=a)->(H a≠none->K.lookup a=none)->
   codeAny (model P w) callerA (.call (.ref fa) ⟨[.ref a],[]⟩) 075 s₁:=by
  intro H hO hS hok hA hK;have base_of:∀{b:Addr} {o:Obj},s₁.heap.get? b=some o->H b=none->(hidT s₁.heap H).get? b=some o:=fun e n=>znW e n
  have noA:∀{b:Addr} {o:Obj} {es:Array DictEntry} {ep:Nat},s₁.heap.get? b=some o->o.data=.dict es ep->H b=none:=fun {b o es ep} e d=>by
   cases q:H b with
   | none=>rfl
   | some u=>
    have e':b=a:=hA b (by rw[q];simp);subst e';rw[ha] at e;cases e;have d':Data.seq vs.toArray _=Data.dict es ep:=d
    cases d'
  have nsK:∀{b:Addr} {m:Str->Option Value},s₁.heap.Ns b m->(hidT s₁.heap H).Ns b m:=fun {b m} ⟨o,es,ep,e,d,r⟩=>⟨o,es,ep,base_of e (noA e d),d,r⟩
  have hKb:K.In (hidT s₁.heap H):=fun b o e=>base_of (KX b o e) (by
   cases q:H b with
   | none=>rfl
   | some u=>
    have e':b=a:=hA b (by rw[q];simp);subst e';rw[hK (by rw[q];simp)] at e;cases e)
  have hM:Mod K mg (hidT s₁.heap H):=⟨hKb,nsK hns,⟨mb,nsK hb,hbb⟩,let ⟨mc,h1,h2⟩:=hlim;⟨mc,nsK h1,h2⟩⟩;have e0:Env0 P w K mg (hidT s₁.heap H) callerA [] s₁ H:=⟨rfl,hM,fun b o e=>zqu e,Nat.le_of_eq (zmS _ _),trivial,fun b hb=>absurd (show b∈([]:List Addr) from hb) (by simp),hok,.of_eq hg⟩;refine codeAny_mono ((F _ hKb (nsK hns)).run callerA [] s₁ H ⟨[.ref a],[]⟩ [.ref a] [.ref a] _ _ hr e0 (hbind s₁ (.ref a)) (.cons rfl .nil) (hsp H hO hS)) fun r s' h=>?_
  cases r with
  | error e=>exact (hCX H e s' h).elim
  | ok fl=>
   cases fl with
   | next=>exact False.elim h
   | brk=>exact False.elim h
   | cont=>exact False.elim h
   | ret u=>
    obtain ⟨v,H',os,bare,un,hok',r',q⟩:=h;have q':v=.bl true:=q;subst q';obtain rfl:u=Value.bool true:=r';refine ⟨rfl,OldK.of_keep fun b o e=>?_,os,bare⟩
    cases q:H b with
    | none=>exact un.keep b o e q (by intro z;exact absurd (show b∈([]:List Addr) from z) (by simp)) (by simp)
    | some u=>
     rcases hO b with z | ⟨ob,xs,z⟩
     .rw[q] at z;cases z
     .have z2:=un.frzs b ob _ z;obtain ⟨e1,_⟩:=hok b _ z;obtain ⟨e2,_⟩:=hok' b _ z2;rw[e] at e1;cases e1;exact e2
 cases hk:K.lookup a with
 | some o=>
  -- the script is one of the module's own objects
  have e:=KX a o hk;rw[ha] at e;cases e;refine core (fun _=>none) (fun _=>.inl rfl) (.inr ⟨_,vs.toArray,_,hk,rfl,rfl,rfl,by rw[List.size_toArray,lenV];exact hl,by simpa using rv⟩) (fun b u z=>by have z':(none:Option HO)=some u:=z;cases z') (fun b z=>absurd rfl z) fun z=>absurd rfl z
 | none=>
  refine core (fun b=>if b=a then some (.frz { cls:=.type "list",data:=.seq vs.toArray } (.lst 014)) else none) (fun b=>?_) (.inl (.inr ⟨{ cls:=.type "list",data:=.seq vs.toArray },if_pos rfl⟩)) (fun b u z=>?_) (fun b z=>?_) fun _=>hk
  .by_cases hb:b=a
   .exact .inr ⟨_,_,if_pos hb⟩
   .exact .inl (if_neg hb)
  .by_cases hb:b=a
   .have z':=(if_pos hb).symm.trans z
    cases z'
    subst hb;exact ⟨ha,by rw[List.length_map];exact hl,vs,_,rv,ha⟩
   .have z':=(if_neg hb).symm.trans z
    cases z'
  .by_cases hb:b=a
   .exact hb
   .exact absurd (if_neg hb) z
def zdF (s:Stmt):Arguments:=match s with
 | .FunctionDef _ a _ _ _ _ _ _ _ _=>a
 | _=>{ posonlyargs:=[],args:=[],vararg:=none,kwonlyargs:=[],kw_defaults:=[],kwarg:=none,defaults:=[] }
def zcg (s:Stmt):List Stmt:=match s with
 | .FunctionDef _ _ b _ _ _ _ _ _ _=>b
 | _=>[]
def zae (s:Stmt):Scope:=match s with
 | .FunctionDef _ _ _ _ _ _ sc _ _ _=>sc
 | _=>{ kind:=.function,names:=[],isGenerator:=false,isCoroutine:=false }
abbrev CX0:CXT:=fun _ _ _ _ _ _=>False
structure Fun (K:PySem.W.Frag) (x qual:Str) (st:Stmt) (f:Addr) (fd:FuncData):Prop where
 ex:∃(oc:Value) (od:Option Addr) (kV doc pm:Value) (an:Option Addr) (cdv ct:Value) (osl:Array (Option Value)),
  fd=PySem.W.fnOf x qual (zdF st) (zcg st) (zae st) .none kV doc pm an cdv ct/\K.lookup f=some ⟨oc,od,.func fd,osl⟩/\PySem.W.codeIn K cdv qual=true
 kp:PySem.W.keepIn K (.ref f)=true
section
variable {P:Program} {w:World} {K:PySem.W.Frag} {mg:Str->Option Value} {base:Heap}
theorem Fun.ok {x qual:Str} {st:Stmt} {f:Addr} {fd:FuncData} {N ps:List Str} {k:Nat} {sp:Sp} (F:Fun K x qual st f fd) (S:zam N ps (zae st)) (len:∀vs H Q E,sp vs H Q E->vs.length=ps.length)
  (hbody:∀(cdv:Value) (A:Around) (outer:List Env) (s:Shared) (H:Hp) (vs:List V) (Q:VK) (E:XK),Room k (A.deeper (envOfC qual (zae st) s.heap.objs.size f cdv))->sp vs H Q E->
   ∃t,PSs (cxOf CX0 P w K mg base N qual (zae st) f cdv A outer s H E).nox (zcg st) t/\t { nx:=fun _ H'=>Q .non H',rt:=Q } (start N vs) H):FnOk P w K mg base CX0 (k+1) f fd ps sp:=by
 obtain ⟨oc,od,kV,doc,pm,an,cdv,ct,osl,rfl,lk,hcd⟩:=F.ex;refine zsB lk hcd S len fun A outer s H vs Q E hr hsp=>?_
 obtain ⟨t,h,q⟩:=hbody cdv A outer s H vs Q E hr hsp;exact ⟨t,h.nox,q⟩
theorem Fun.binds {x qual:Str} {st:Stmt} {f:Addr} {fd:FuncData} {ps:List Str} (F:Fun K x qual st f fd)
  (h:∀(kV doc pm:Value) (an:Option Addr) (cdv ct:Value) (us:List Value),us.length=ps.length->bindArgs (PySem.W.fnOf x qual (zdF st) (zcg st) (zae st) .none kV doc pm an cdv ct) ⟨us,[]⟩=pure (ps.zip us)):Binds K fd ps []:=by
 obtain ⟨oc,od,kV,doc,pm,an,cdv,ct,osl,rfl,lk,hcd⟩:=F.ex;exact .all (h kV doc pm an cdv ct)
end
section
variable {X:Cx}
theorem pv (i:Nat) {x:Str} {pos:Pos} (hN:X.N[i]? = some x:=by rfl) (hv:Vis X.env.scope x:=by first | exact Or.inl rfl | exact Or.inr 035 | exact Or.inr (Or.inr rfl)) (hd:065=false:=by decide)
  (hcd:(x==("__classdict__":Str))=false:=by decide):PE X (.Name x pos) (tVar i):=zsj hN hv hd hcd
end
def Same (H H':Hp):Prop:=∀b o,H b=some o->H' b=some o
theorem Same.refl (H:Hp):Same H H:=fun _ _ h=>h
end L2
set_option maxHeartbeats 4000000
namespace L2
open PySem PySem.Spec PyProof.Rows
def zd8 (cells:List (Str×Addr)):List (Str×NameKind)->List (Str×Addr)->List (Str×Addr)
 | [],cs=>cs
 | (n,k)::r,cs=>zd8 cells r (if (k==NameKind.free)=true then (match cells.lookup n with | some a=>(n,a)::cs | none=>cs) else cs)
theorem zit (env:Env):∀(l:List (Str×NameKind)) (cs:List (Str×Addr)),(∀y∈l,y.2=.free->∃c,env.cells.lookup y.1=some c)->
  (forIn l cs fun x r=>match x with | (name,kind)=>if (kind==NameKind.free)=true then do let a <-cellOf env name;pure (ForInStep.yield ((name,a)::r)) else pure (ForInStep.yield r))=(pure (zd8 env.cells l cs):Sem (List (Str×Addr)))
 | [],cs,_=>rfl
 | (n,k)::l,cs,h=>by
  have ih:=fun cs=>zit env l cs fun y hy=>h y (List.mem_cons_of_mem _ hy)
  rw[List.forIn_cons];unfold zd8
  by_cases hk:k=.free
  .subst hk;obtain ⟨c,hc⟩:=h (n,.free) List.mem_cons_self rfl;have e:cellOf env n=pure c:=by unfold cellOf;rw[hc]
   simp only[beq_self_eq_true,if_true,e,hc,pure_bind];exact ih _
  .have hb:(k==NameKind.free)=false:=by simpa using hk
   simp only[hb,Bool.false_eq_true,if_false,pure_bind];exact ih _
theorem zoS {scope:Scope} {env:Env} (h:∀y∈scope.names,y.2=.free->∃c,env.cells.lookup y.1=some c):closureFor scope env=pure (zd8 env.cells scope.names []):=by
 unfold closureFor;simp only[bind_pure];exact zit env scope.names [] h
theorem zi1 (cells:List (Str×Addr)):∀(l:List (Str×NameKind)) (cs:List (Str×Addr)),(∀x c,cs.lookup x=some c->cells.lookup x=some c)->∀x c,(zd8 cells l cs).lookup x=some c->cells.lookup x=some c
 | [],cs,h,x,c,e=>h x c e
 | (n,k)::l,cs,h,x,c,e=>by
  unfold zd8 at e;refine zi1 cells l _ ?_ x c e;intro y d q;split at q
  .cases hc:cells.lookup n with
   | none=>rw[hc] at q;exact h y d q
   | some a=>
    rw[hc] at q;simp only[List.lookup_cons] at q
    cases hy:y==n with
    | true=>
     rw[hy] at q
     have:y=n:=by simpa using hy
     subst this;rw[hc];exact q
    | false=>rw[hy] at q;exact h y d q
  .exact h y d q
theorem zjP (cells:List (Str×Addr)):∀(l:List (Str×NameKind)) (cs:List (Str×Addr)) (x:Str),(∃c,cs.lookup x=some c)->∃c,(zd8 cells l cs).lookup x=some c
 | [],cs,x,h=>h
 | (n,k)::l,cs,x,h=>by
  unfold zd8;refine zjP cells l _ x ?_;split
  .split
   .simp only[List.lookup_cons];split
    .exact ⟨_,rfl⟩
    .exact h
   .exact h
  .exact h
theorem zjo (cells:List (Str×Addr)):∀(l:List (Str×NameKind)) (cs:List (Str×Addr)) (x:Str),(x,NameKind.free)∈l->(∃c,cells.lookup x=some c)->∃c,(zd8 cells l cs).lookup x=some c
 | [],cs,x,h,_=>by simp at h
 | (n,k)::l,cs,x,h,hc=>by
  unfold zd8;rcases List.mem_cons.mp h with e | h
  .cases e;obtain ⟨c,hc⟩:=hc;simp only[beq_self_eq_true,if_true,hc];exact zjP cells l _ _ ⟨c,by simp[List.lookup_cons]⟩
  .exact zjo cells l _ x h hc
theorem zjJ:∀(names:List (Str×NameKind)) (n:Nat) (acc:List (Str×Addr)) (x:Str) (c:Addr),(cellsFrom n names acc).lookup x=some c->acc.lookup x=some c\/n<=c
 | [],_,_,_,_,h=>.inl h
 | (y,k)::r,n,acc,x,c,h=>by
  unfold cellsFrom at h;split at h
  .rcases zjJ r _ _ x c h with q | q
   .rw[List.lookup_cons] at q;split at q
    .cases q;exact .inr 022
    .exact .inl q
   .exact .inr (Nat.le_of_succ_le q)
  .exact zjJ r _ _ x c h
theorem zpn {m:Nat}:∀(names:List (Str×NameKind)) (n:Nat) (acc:List (Str×Addr)) (x:Str) (c:Addr),m<=n->((∀d,acc.lookup x=some d->m<=d)\/names.lookup x=some .cell)->(cellsFrom n names acc).lookup x=some c->m<=c
 | [],_,_,_,_,_,q,h=>q.elim (fun q=>q _ h) fun q=>by cases q
 | (y,k)::r,n,acc,x,c,hm,q,h=>by
  unfold cellsFrom at h;rw[List.lookup_cons] at q;split at h
  .refine zpn r _ _ x c (Nat.le_succ_of_le hm) ?_ h
   cases e:x==y with
   | true=>exact .inl fun d hd=>by rw[List.lookup_cons,e] at hd;cases hd;exact hm
   | false=>rw[e] at q;exact q.imp (fun q d hd=>by rw[List.lookup_cons,e] at hd;exact q d hd) id
  .rename_i hk;refine zpn r _ _ x c hm (q.imp id fun q=>?_) h
   cases e:x==y with
   | true=>rw[e] at q;cases q;exact absurd rfl hk
   | false=>rw[e] at q;exact q
theorem zli:∀(names:List (Str×NameKind)) (n:Nat) (acc:List (Str×Addr)),(∀x y c,acc.lookup x=some c->acc.lookup y=some c->x=y)->(∀x c,acc.lookup x=some c->c < n)->∀x y c,(cellsFrom n names acc).lookup x=some c->(cellsFrom n names acc).lookup y=some c->x=y
 | [],_,_,hi,_,x,y,c,h,h'=>hi x y c h h'
 | (z,k)::r,n,acc,hi,hl,x,y,c,h,h'=>by
  unfold cellsFrom at h h';split at h
  .rename_i hk;rw[if_pos hk] at h';refine zli r _ _ (fun x y c=>?_) (fun x c e=>?_) x y c h h'
   .rw[List.lookup_cons,List.lookup_cons]
    cases ex:x==z<;>cases ey:y==z
    .exact hi x y c
    .intro e e';cases e';exact absurd (hl _ _ e) (Nat.lt_irrefl _)
    .intro e e';cases e;exact absurd (hl _ _ e') (Nat.lt_irrefl _)
    .exact fun _ _=>(beq_iff_eq.mp ex).trans (beq_iff_eq.mp ey).symm
   .rw[List.lookup_cons] at e;split at e
    .cases e;exact Nat.lt_succ_self _
    .exact Nat.lt_succ_of_lt (hl _ _ e)
  .rename_i hk;rw[if_neg hk] at h';exact zli r _ _ hi hl x y c h h'
theorem zoG:∀(names:List (Str×NameKind)) (n:Nat) (acc:List (Str×Addr)) (x:Str),(x,NameKind.cell)∉names->(cellsFrom n names acc).lookup x=acc.lookup x
 | [],_,_,_,_=>rfl
 | (y,k)::r,n,acc,x,h=>by
  unfold cellsFrom;have hr:=fun acc n=>zoG r n acc x fun z=>h (List.mem_cons_of_mem _ z)
  split
  .rename_i hk
   have:k=.cell:=by simpa using hk
   subst this;rw[hr,List.lookup_cons]
   cases e:x==y with
   | true=>exact absurd (by rw[beq_iff_eq.mp e];exact List.mem_cons_self) h
   | false=>rfl
  .exact hr _ _
theorem zqr:∀(names:List (Str×NameKind)) (h:Heap) (acc:List (Str×Addr)) (x:Str) (c:Addr),(cellsFrom h.objs.size names acc).lookup x=some c->acc.lookup x=some c\/(pushCells h names).IsCell c none
 | [],_,_,_,_,e=>.inl e
 | (y,k)::r,h,acc,x,c,e=>by
  unfold cellsFrom at e;unfold pushCells;split at e
  .rename_i hk;rw[if_pos hk];rcases zqr r (h.push { cls:=.type "cell",data:=.cell none }) ((y,h.objs.size)::acc) x c (by rw[Heap.size_push];exact e) with q | q
   .rw[List.lookup_cons] at q;split at q
    .cases q;exact .inr ⟨_,pushCells_keeps _ _ _ _ (Heap.get?_push_size _ rfl),rfl⟩
    .exact .inl q
   .exact .inr q
  .rename_i hk;rw[if_neg hk];exact zqr r _ _ x c e
theorem zpK {M:Model} {A:Around} {E:Value->Shared->Prop} {s:Shared} {scope:Scope} {globals:Addr} {closure:List (Str×Addr)} {qual:Str} {func:Option Addr} {code:Value} {outer:Env} {builtins:Addr} {Q:Env->Shared->Prop}
  (hQ:Q (newEnv scope s.heap.objs.size globals (cellsFrom (s.heap.objs.size+1) scope.names closure) qual func code (some outer) builtins) { s with heap:=pushCells (s.heap.push { cls:=.type "dict",data:=.dict #[] }) scope.names }) :
  wpAny M A (newFunctionEnv scope globals closure [] qual func code (some outer) builtins) Q E s:=by
 simp only[newFunctionEnv,Option.isSome_some,if_true];refine wpAny_bind (wpAny_alloc ?_);refine wpAny_bind (wpAny_layCells _ (fun name kind cells=>by cases hkc:kind==NameKind.cell<;>simp[hkc]) _ _ _ _ ?_);rw[show ({ s with heap:=s.heap.push { cls:=.type "dict",data:=.dict #[] } }:Shared).heap.objs.size=s.heap.objs.size+1 from Heap.size_push ..];refine wpAny_bind ?_;rw[List.forIn_nil];exact wpAny_pure (wpAny_pure hQ)
def blk (X:Cx) (N':List Str) (scope:Scope) (s:Shared) (H:Hp) (ex:List Addr):Cx:=
 { X with N:=N',s₀:=s,H₀:=H,env:=compEnvC scope (cellsFrom (s.heap.objs.size+1) scope.names 067) s.heap.objs.size X.env,outer:=X.stack,stack:=X.stack,ex:=ex,fn:=fun x=>decide (scope.names.lookup x=some .cell),pn:=[],xe:=fun _ _=>False }
def pick (σ:St) (js:List 015):St:=js.map fun j=>match j with | none=>none | some i=>(σ[i]?).getD none
def zh0 (N:List Str) (sc:Scope) (N':List Str) (scope:Scope) (js:List 015):Bool:=
 (N'.length==js.length)&&(N'.zip js).all fun p=>match p.2 with
  | none=>true
  | some i=>decide (N[i]? = some p.1)&&(decide (sc.names.lookup p.1=some .cell) || decide (sc.names.lookup p.1=some .free))&&decide (scope.names.lookup p.1=some .free)
def zfo (sc scope:Scope):Bool:=scope.names.all fun y=>((y.2 != .cell) || decide (scope.names.lookup y.1=some .cell))&&((y.2 != .free) || (decide (sc.names.lookup y.1=some .cell) || decide (sc.names.lookup y.1=some .free)))&&((y.2 != .local) || decide (scope.names.lookup y.1=some .local))
theorem zex {env:Env} {x:Str} {k:NameKind}:∀{names:List (Str×NameKind)},
  (names.map fun (n,k)=>if (k==NameKind.free&&env.scope.kind==.function&&env.kindOf n==some .cell) then (n,NameKind.cell) else (n,k)).lookup x=some k->
  names.lookup x=some k\/(names.lookup x=some .free/\k=.cell)
 | [],h=>by simp at h
 | (n,j)::r,h=>by
  have ih:=@zex env x k r;simp only[List.map_cons] at h
  by_cases hc:(j==NameKind.free&&env.scope.kind==.function&&env.kindOf n==some .cell)=true
  .rw[if_pos hc] at h;have hj:j=.free:=by
    have:=(Bool.and_eq_true _ _).mp ((Bool.and_eq_true _ _).mp hc).1
    simpa using this.1
   subst hj
   cases hx:x==n with
   | true=>
    simp only[List.lookup_cons,hx] at h ⊢;cases h;exact .inr (by simp)
   | false=>
    simp only[List.lookup_cons,hx] at h ⊢;exact ih h
  .rw[if_neg hc] at h
   cases hx:x==n with
   | true=>simp only[List.lookup_cons,hx] at h ⊢;exact .inl h
   | false=>simp only[List.lookup_cons,hx] at h ⊢;exact ih h
theorem zfO {env:Env} {x:Str}:∀{names:List (Str×NameKind)},names.lookup x=some .free->
  (names.map fun (n,k)=>if (k==NameKind.free&&env.scope.kind==.function&&env.kindOf n==some .cell) then (n,NameKind.cell) else (n,k)).lookup x=some .cell\/
  (names.map fun (n,k)=>if (k==NameKind.free&&env.scope.kind==.function&&env.kindOf n==some .cell) then (n,NameKind.cell) else (n,k)).lookup x=some .free
 | [],h=>by simp at h
 | (n,j)::r,h=>by
  have ih:=@zfO env x r;simp only[List.map_cons]
  cases hx:x==n with
  | true=>
   simp only[List.lookup_cons,hx] at h;cases h
   by_cases hc:(NameKind.free==NameKind.free&&env.scope.kind==.function&&env.kindOf n==some .cell)=true
   .rw[if_pos hc];exact .inl (by simp[List.lookup_cons,hx])
   .rw[if_neg hc];exact .inr (by simp[List.lookup_cons,hx])
  | false=>
   simp only[List.lookup_cons,hx] at h
   by_cases hc:(j==NameKind.free&&env.scope.kind==.function&&env.kindOf n==some .cell)=true
   .rw[if_pos hc];simp only[List.lookup_cons,hx];exact ih h
   .rw[if_neg hc];simp only[List.lookup_cons,hx];exact ih h
section
variable {X:Cx} {pins:List (Addr×Obj)} {σ:St} {H H':Hp} {s:Shared}
theorem Inv.adopt {l : Addr} {o : HO} (I : Inv X pins σ H s) (hn : H l = none) (hL : l ≠ X.env.locals) (h1 : l ∈ X.ex \/ X.s₀.heap.objs.size <= l)
    (h2 : ∀ x c, X.env.cells.lookup x = some c -> c ≠ l) (h3 : ∀ p ∈ X.pn ++ pins, p.1 ≠ l) (new : ObjOk X.prog X.w (upd H l o) s.heap l o) : Inv X pins σ (upd H l o) s := by
  have nl : ∀ b u, H b = some u -> b ≠ l := fun b u e z => by rw [z, hn] at e; cases e
  have := I.step (H' := upd H l o) (h' := s.heap) (g' := s.gens) (t' := s.toks) (d' := s.drawn) (ch := [l])
    (fun b hb => by have e : b = l := by simpa using hb
                    subst e; exact ⟨h1, hL, h2, h3⟩)
    (fun b o _ _ _ e _ => e) (fun b o _ _ _ e _ => ⟨o.slots, e⟩) (fun b o hc e n => by rw [zaD (fun z => hc (by simp [z]))]; exact n) (fun b o _ e => ⟨o, e⟩)
    (fun b xs e => by rw [zaD (nl b _ e)]; exact e) (fun b o u e => by rw [zaD (nl b _ e)]; exact e) (fun b ps e => ⟨#[], by rw [zaD (nl b _ e), e]; simp⟩) (fun m hm => hm)
    (fun b u e => by
      by_cases hb : b = l
      . subst hb; rw [zbu] at e; cases e; exact new
      . rw [zaD hb] at e
        exact (I.hok b u e).stay (fun c v _ q => q) (fun c q => by rw [zaD (nl c _ q)]; exact q) fun c xs q => by rw [zaD (nl c _ q)]; exact q) I.bare
  exact this
end
section
variable {prog:Program} {w:World} {A:Around} {R:Result->Shared->Prop} {s:Shared}
theorem zhU {elt target iter:Expr} {ifs:List Expr} {scope:Scope} {pos:Pos} {it acc:Value} {env:Env} (I:Nat->Shared->Prop)
  (turn:∀n s,I n s->wpAny 052 A (pyNext it) (fun r s₁=>match r with
   | none=>R (.ok .next) s₁
   | some v=>wpAny 052 A (letOwnedTupleGo target it v) (fun _ s₁'=>wpAny 052 A (assign target env v) (fun _ s₂=>
     wpAny 052 A (forIn ifs true fun c r=>if r=true then do let ok <-isTrue c env (eval c env);pure (ForInStep.yield ok) else pure (ForInStep.yield r)) (fun ok s₃=>
      if ok=true then wpAny 052 A (eval elt env) (fun x s₄=>
       wpAny 052 A (call (.builtin "list.append") [acc,x]) (fun _ s₅=>∃m,m < n/\I m s₅) (fun _ _=>False) s₄) (fun _ _=>False) s₃
      else ∃m,m < n/\I m s₃) (fun _ _=>False) s₂) (fun _ _=>False) s₁') (fun _ _=>False) s₁) (fun _ _=>False) s)
  (n:Nat) (h:I n s) :
  codeAny 052 A (.compLoop (.ListComp elt [⟨target,iter,ifs,0⟩] scope pos) 0 it acc env) R s:=by
 refine codeAny_loop rfl I (fun n s hI=>?_) n h
 show wpAny _ A ((compTurn (.ListComp elt [⟨target,iter,ifs,0⟩] scope pos) 0 it acc env).onRaise (fun x=>do noteFrame x env;theTreesLotGoes x)) _ _ s
 refine wpAny_noted ?_;rw[compTurn_list];refine wpAny_bind (wpAny_standAt (wpAny_bind (wpAny_mono (turn n s hI) (fun r s₁ h₁=>?_) fun _ _ h'=>h'.elim)))
 cases r with
 | none=>exact wpAny_pure h₁
 | some v=>
  refine wpAny_bind (wpAny_mono h₁ (fun _ s₁' h₁'=>?_) fun _ _ h'=>h'.elim);refine wpAny_bind (wpAny_mono h₁' (fun _ s₂ h₂=>wpAny_bind (wpAny_mono h₂ (fun ok s₃ h₃=>?_) fun _ _ h'=>h'.elim)) fun _ _ h'=>h'.elim)
  cases ok with
  | false=>exact wpAny_pure ⟨rfl,h₃⟩
  | true=>
   exact wpAny_bind (wpAny_bind (wpAny_mono h₃ (fun x s₄ h₄=>wpAny_bind (wpAny_mono h₄ (fun _ s₅ h₅=>wpAny_pure (wpAny_pure ⟨rfl,h₅⟩)) fun _ _ h'=>h'.elim)) fun _ _ h'=>h'.elim))
end
def PF (X:Cx) (ifs:List Expr) (t:TT):Prop:=
 ∀(pins:List 010) (s:Shared) (σ:St) (H:Hp) (Q:Bool->Hp->Prop),Inv X pins σ H s->t σ H Q->
  wpAny 000 X.A (forIn ifs true fun c r=>if r=true then do let ok <-isTrue c X.env (eval c X.env);pure (ForInStep.yield ok) else pure (ForInStep.yield r)) (TP X pins σ Q) X.xe s
def tYes:TT:=fun _ H Q=>Q true H
theorem zqQ {X:Cx}:PF X [] tYes:=fun _ _ _ H _ I h=>wpAny_tests_nil ⟨H,I,h⟩
theorem zsA {X:Cx} {c:Expr} {t:TT} (hc:PT X c t):PF X [c] t:=fun pins s σ H Q I h=>wpAny_tests_one (hc pins s σ H Q I h)
def lcGo (J:It) (js:List 015) (g:TG) (tt:TT) (te:TE) (σ:St) (H1:Hp) (Q:VK):Prop:=
 ∃W:Nat->Nat->List V->Hp->Prop,(∃m,W 0 m [] H1)/\∀i m acc H,W i m acc H->
  (J.stop i H/\acc.length<=sizeLine/\∀l,H l=none->Q (.ref l) (upd H l (.lst acc)))\/
  (J.go i H/\acc.length < sizeLine/\∀x H',J.yld i H x H'->g x (pick σ js) H' fun σ2 H2=>tt σ2 H2 fun b H3=>
   if b=true then te σ2 H3 fun v H4=>∃m',m' < m/\W (i+1) m' (acc++[v]) H4 else ∃m',m' < m/\W (i+1) m' acc H3)
def tLC (wi:TI) (js:List 015) (g:TG) (tt:TT) (te:TE):TE:=fun σ H Q=>wi σ H fun J H1=>lcGo J js g tt te σ H1 Q
section
variable {X:Cx} {elt tgt iter:Expr} {ifs:List Expr} {scope:Scope} {pos:Pos} {N':List Str} {js:List (Option Nat)} {wi:TI} {g:TG} {tt:TT} {te:TE}
theorem zrS {pins:List 010} {σ:St} {H:Hp} {s:Shared} {ex:List Addr} (I:Inv X pins σ H s) (hk:scope.kind=.function) (hf:zfo X.env.scope scope=true)
  (hex:∀b∈ex,097/\b≠X.env.locals/\b∉X.fs/\070/\b < s.heap.objs.size):(blk X N' scope s H ex).Ok:=by
 have hf':∀y∈scope.names,(y.2=.cell->scope.names.lookup y.1=some .cell)/\(y.2=.free->X.env.scope.names.lookup y.1=some .cell\/X.env.scope.names.lookup y.1=some .free):=fun y hy=>by
  have:=List.all_eq_true.mp hf y hy
  simp only[Bool.and_eq_true,Bool.or_eq_true,bne_iff_ne,ne_eq,decide_eq_true_eq] at this;exact ⟨fun e=>this.1.1.resolve_left fun z=>z e,fun e=>this.1.2.resolve_left fun z=>z e⟩
 have sub:=zi1 X.env.cells scope.names [] (by simp);have cl:∀x c,(zd8 X.env.cells scope.names []).lookup x=some c->c < s.heap.objs.size:=fun x c e=>by
  obtain ⟨v,q⟩:=I.cell x c (sub x c e);exact q.lt
 refine ⟨I.ok.mod,hk,I.ok.glob,I.ok.blt,Nat.le_refl _,zli _ _ _ (fun x y c h1 h2=>?_) (fun x c e=>Nat.lt_succ_of_lt (cl x c e)),fun x hx=>?_,fun x c h e=>?_,I.ok.hd,I.ok.frames,.inl rfl,fun b hb=>?_,I.bs,Nat.le_trans I.ok.bsz I.sz,fun b o e hb=>?_,fun b hb hb'=>?_,I.stack,I.stkFree⟩
 .exact I.ok.inj x y c (sub x c h1) (sub y c h2)
 .have hfree:scope.names.lookup x=some .cell\/scope.names.lookup x=some .free:=by
   have hx:((scope.names.map fun (n,k)=>if (k==NameKind.free&&X.env.scope.kind==.function&&X.env.kindOf n==some .cell) then (n,NameKind.cell) else (n,k)).lookup x=some .cell)\/
    ((scope.names.map fun (n,k)=>if (k==NameKind.free&&X.env.scope.kind==.function&&X.env.kindOf n==some .cell) then (n,NameKind.cell) else (n,k)).lookup x=some .free):=hx
   rcases hx with hx | hx
   .exact (zex hx).imp id fun z=>z.1
   .exact (zex hx).elim .inr fun z=>.inr z.1
  refine Option.isSome_iff_exists.mp (PySem.W.cellsFrom_some _ _ _ (hfree.imp id fun hfree=>?_));have hm:=PySem.mem_of_lookup hfree;obtain ⟨c,hc⟩:=I.ok.has x ((hf' _ hm).2 rfl);exact Option.isSome_iff_exists.mpr (zjo X.env.cells scope.names [] x hm ⟨c,hc⟩)
 .exact zpn _ _ _ x c (Nat.le_succ _) (.inr (of_decide_eq_true h)) e
 .obtain ⟨h1,h2,h3,h4,h5⟩:=hex b hb;exact ⟨Nat.ne_of_lt h5,fun x c e=>(zjJ _ _ _ x c e).elim (fun e=>h4 x c (sub x c e)) fun e=>Nat.ne_of_gt (Nat.lt_of_lt_of_le (Nat.lt_succ_of_lt h5) e)⟩
 .obtain ⟨h1,h2,h3,h4,h5⟩:=hex b hb;rcases h1 with z | z
  .exact I.ok.noex b o e z
  .exact absurd (Nat.lt_of_lt_of_le (Heap.lt_size e) (Nat.le_trans I.ok.bsz z)) (Nat.lt_irrefl _)
 .obtain ⟨h1,h2,h3,h4,h5⟩:=hex b hb;rcases List.mem_cons.mp (I.stkSub b hb') with e | z
  .exact h2 e
  .exact h3 z
end
section
variable {X:Cx} {elt tgt iter:Expr} {ifs:List Expr} {scope:Scope} {pos:Pos} {N':List Str} {js:List (Option Nat)} {g:TG} {tt:TT} {te:TE}
structure FrC (X:Cx) (pins:List (Addr×Obj)) (H:Hp) (C:Addr):Prop where
 no:H C=none
 ne:C≠X.env.locals
 up:X.s₀.heap.objs.size<=C
 cl:∀x c,X.env.cells.lookup x=some c->c≠C
 pn:∀p∈X.pn++pins,p.1≠C
theorem FrC.turned {pins:List 010} {σ:St} {H:Hp} {s:Shared} {C:Addr} {h':Heap} (F:FrC X pins H C) (I:Inv X pins σ H s) (hs:Heap.SameBut C s.heap h'):Inv X pins σ H { s with heap:=h' }:=
 I.turned (t':=s.toks) (fun b o hb e=>(hs.2 b hb).trans e) F.no F.ne (.inr F.up) F.cl F.pn
def GK (js:List 015) (g:TG):Prop:=∀v σ H Q,g v σ H Q->g v σ H fun σ2 H2=>Q σ2 H2/\∀(i j:Nat),js[i]? = some (some j)->σ2[i]? = σ[i]?
theorem zjM {σ:St}:(pick σ js).length=js.length:=by unfold pick;rw[List.length_map]
theorem zko {pins:List 010} {σ:St} {H:Hp} {s:Shared} {it:Addr} {fp:List Addr} {tn:Nat->Heap->Prop} {J:It} {Q:VK} {E:Value->Shared->Prop} {RR:Value->Addr->Result->Shared->Prop}
  (hc:X.calm=true) (hkind:scope.kind=.function) (hf:zfo X.env.scope scope=true) (hcap:zh0 X.N X.env.scope N' scope js=true) (hgk:GK js g)
  (I:Inv X pins σ H s) (T:Turn X.prog X.w X.K tgt J fp it tn) (st:tn 0 s.heap) (hfp:∀b∈fp,FpOk X pins H b) (h:lcGo J js g tt te σ H Q)
  (hb:∀(s':Shared) (H':Hp) (ex:List Addr),PG 046 tgt g/\PF 046 ifs tt/\PE 046 elt te)
  (hRR:∀(l C:Addr) (s':Shared) (m':Str->Option Value) (H':Hp) (acc:List V),Inv X pins σ (upd H' l (.lst acc)) s'->s'.heap.Ns C m'->FrC X pins (upd H' l (.lst acc)) C->Q (.ref l) (upd H' l (.lst acc))->RR (.ref l) C (.ok .next) s') :
  wpAny 000 X.A (newList []) (fun acc s₃=>wpAny 000 X.A (newFunctionEnv scope X.env.globals 067 [] X.env.qual none .none (some X.env)) (fun cenv s₄=>
   codeAny 000 X.A (.compStart 017 0 (.ref it) acc { cenv with scope:=relabel scope X.env }) (RR acc cenv.locals) s₄) E s₃) E s:=by
 have hz0:(([]:List V)).length<=sizeLine:=Nat.zero_le _;refine wpAny_newObj_type (zpK ?_);dsimp only
 -- the maker,the new list laid untracked
 have I3:Inv X pins σ H { s with heap:=s.heap.push { cls:=.type "list",dict:=none,data:=.seq ([]:List Value).toArray } }:=I.kept (t':=s.toks) fun b o e=>Heap.get?_push_of_some _ e
 have hl3:(s.heap.push { cls:=.type "list",dict:=none,data:=.seq ([]:List Value).toArray }).get? s.heap.objs.size=some { cls:=.type "list",dict:=none,data:=.seq ([]:List Value).toArray }:=Heap.get?_push_size _ rfl;have old3:∀b o,s.heap.get? b=some o->(s.heap.push { cls:=.type "list",dict:=none,data:=.seq ([]:List Value).toArray }).get? b=some o:=fun b o e=>Heap.get?_push_of_some _ e
 have sz3:(s.heap.push { cls:=.type "list",dict:=none,data:=.seq ([]:List Value).toArray }).objs.size=s.heap.objs.size+1:=Heap.size_push ..;generalize (s.heap.push { cls:=.type "list",dict:=none,data:=.seq ([]:List Value).toArray })=H3 at *;generalize hs3:({ s with heap:=H3 }:Shared)=s3 at *;have hh3:s3.heap=H3:=by rw[<-hs3]
 have hl:H s.heap.objs.size=none:=I.hok.fresh 022;have fplt:∀b∈fp,b < s.heap.objs.size:=fun b hb=>by obtain ⟨o,e,_⟩:=T.obj _ _ st b hb;exact Heap.lt_size e
 have lL:s.heap.objs.size≠X.env.locals:=Nat.ne_of_gt I.lt;have lfs:s.heap.objs.size∉X.fs:=I.nofs 022;have lc:∀x c,X.env.cells.lookup x=some c->c≠s.heap.objs.size:=fun x c e=>by obtain ⟨v,q⟩:=I.cell x c e;exact Nat.ne_of_lt q.lt
 have lp:∀p∈X.pn++pins,p.1≠s.heap.objs.size:=fun p hp=>Nat.ne_of_lt (Heap.lt_size (I.pin p hp).1)
 have hex:∀b∈s.heap.objs.size::fp,097/\b≠X.env.locals/\b∉X.fs/\070/\b < s3.heap.objs.size:=fun b hb=>by
  rw[hh3,sz3];rcases List.mem_cons.mp hb with e | hb
  .rw[e];exact ⟨.inr I.sz,lL,lfs,lc,Nat.lt_succ_self _⟩
  .obtain ⟨f0,f1,f2,f3,f4,f5⟩:=hfp b hb;exact ⟨f3,f1,f2,f4,Nat.lt_succ_of_lt (fplt b hb)⟩
 have hexp:∀b∈s.heap.objs.size::fp,∀p∈X.pn++pins,p.1≠b:=fun b hb=>by
  rcases List.mem_cons.mp hb with e | hb
  .rw[e];exact lp
  .exact (hfp b hb).2.2.2.2.2
 -- the block
 have OK:(blk X N' scope s3 H (s.heap.objs.size::fp)).Ok:=zrS I3 hkind hf hex;have clsub:=zi1 X.env.cells scope.names [] (by simp);have cown:∀x c,(cellsFrom (s3.heap.objs.size+1) scope.names 067).lookup x=some c->X.env.cells.lookup x=some c\/s3.heap.objs.size+1<=c:=fun x c e=>(zjJ _ _ _ x c e).imp (clsub x c) id
 have eC:H3.objs.size=s3.heap.objs.size:=by rw[hh3]
 have keep1:∀b o,s3.heap.get? b=some o->(pushCells 084 scope.names).get? b=some o:=fun b o e=>pushCells_keeps _ _ b o (Heap.get?_push_of_some _ (by rw[<-hh3];exact e))
 have atC:∀x c,(cellsFrom (s3.heap.objs.size+1) scope.names 067).lookup x=some c->X.env.cells.lookup x=some c\/(pushCells 084 scope.names).IsCell c none:=fun x c e=>
  (zqr scope.names 084 _ x c (by rw[Heap.size_push,eC];exact e)).imp (clsub x c) id
 have hns₁:(pushCells 084 scope.names).Ns s3.heap.objs.size fun _=>none:=by
  rw[<-eC];exact (Heap.Ns.new H3 (.type "dict")).keeps (pushCells_keeps _ _)
 generalize pushCells 084 scope.names=h₁ at *;have capL:N'.length=js.length:=by
  have:=(Bool.and_eq_true _ _).mp hcap
  simpa using this.1
 have capA:∀(i:Nat) (x:Str) (v:V),N'[i]? = some x->(pick σ js)[i]? = some (some v)->∃i0,σ[i0]? = some (some v)/\X.N[i0]? = some x/\(X.env.scope.names.lookup x=some .cell\/X.env.scope.names.lookup x=some .free)/\scope.names.lookup x=some .free:=fun i x v e1 e2=>by
  have ha:=List.all_eq_true.mp ((Bool.and_eq_true _ _).mp hcap).2;unfold pick at e2;rw[List.getElem?_map] at e2
  cases ej:js[i]? with
  | none=>rw[ej] at e2;cases e2
  | some j=>
   rw[ej] at e2;have hm:(x,j)∈N'.zip js:=List.mem_of_getElem? (i:=i) (by rw[List.getElem?_zip_eq_some];exact ⟨e1,ej⟩);have hp:=ha _ hm
   cases j with
   | none=>simp at e2
   | some i0=>
    simp only[Bool.and_eq_true,Bool.or_eq_true,decide_eq_true_eq] at hp;refine ⟨i0, ?_,hp.1.1,hp.1.2,hp.2⟩;simp only[Option.map_some,Option.some.injEq] at e2
    cases q:σ[i0]? with
    | none=>rw[q] at e2;simp at e2
    | some z=>rw[q] at e2;simp at e2;rw[e2]
 have Cf:∀{H':Hp} {s':Shared},HOk X.prog X.w H' s'.heap->s'.heap.objs.size<=s3.heap.objs.size->H' s3.heap.objs.size=none:=fun ok z=>ok.fresh z
 have I4:Inv 012 [(s.heap.objs.size,{ cls:=.type "list",dict:=none,data:=.seq ([]:List Value).toArray })] (pick σ js) H { s3 with heap:=h₁ }:=by
  refine ⟨OK,rfl,I3.bare,Un.kept keep1,⟨_,hns₁,fun i x v e1 e2 e3=>?_⟩,fun x c e=>?_,I3.hok.fresh 022,fun x c e=>(cown x c e).elim (I.freeC x c) fun q=>I3.hok.fresh (Nat.le_of_succ_le q),fun p hp=>?_,I3.hok.kept keep1, ?_⟩
  .obtain ⟨i0,q1,q2,q3,q4⟩:=capA i x v e1 e2;obtain ⟨m,hn,hlo⟩:=I3.loc;obtain ⟨u,r,lk⟩:=hlo i0 x v q2 q1 (.inr q3);refine ⟨u,r,.inr ?_⟩;have hk':X.env.kindOf x=some .cell\/X.env.kindOf x=some .free:=q3;rcases lk with ⟨k,_⟩ | ⟨_,c,hcc,hcell'⟩
   .rcases hk' with z | z<;>(rw[z] at k;cases k)
   .obtain ⟨c',hc'⟩:=zjo X.env.cells scope.names [] x (PySem.mem_of_lookup q4) ⟨c,hcc⟩
    have:c'=c:=Option.some.inj ((clsub x c' hc').symm.trans hcc)
    subst this;refine ⟨?_,c',(zoG _ _ _ x fun z=>by
      have z1:=List.all_eq_true.mp hf _ z;simp only[Bool.and_eq_true,Bool.or_eq_true,bne_iff_ne,ne_eq,decide_eq_true_eq] at z1;have z2:=z1.1.1.resolve_left fun z=>z trivial
      rw[q4] at z2;cases z2).trans hc', ?_⟩
    .rcases zfO (env:=X.env) q4 with z | z
     .exact .inl z
     .exact .inr z
    .obtain ⟨o,e,d⟩:=hcell';exact ⟨o,keep1 _ _ e,d⟩
  .rcases atC x c e with e | e
   .obtain ⟨v,o,e',d⟩:=I3.cell x c e;exact ⟨v,o,keep1 _ _ e',d⟩
   .exact ⟨_,e⟩
  .have e:p=(s.heap.objs.size,{ cls:=.type "list",dict:=none,data:=.seq ([]:List Value).toArray }):=by simpa [blk] using hp
   subst e;refine ⟨keep1 _ _ (by rw[hh3];exact hl3),hl, ?_, ?_,fun v z=>by cases z⟩
   .show s.heap.objs.size≠s3.heap.objs.size
    rw[hh3,sz3];exact Nat.ne_of_lt (Nat.lt_succ_self _)
   .exact fun z=>by
     rcases List.mem_cons.mp (I.stkSub _ z) with e | z
     .exact lL e
     .exact lfs z
  .rw[zjM];exact capL.symm
 obtain ⟨W,⟨m0,w0⟩,turn⟩:=h;have stat:∀{ob:Obj} {H':Hp},(∀b∈fp,H' b=none)->∀b∈fp,FpOk 012 [(s.heap.objs.size,ob)] H' b:=fun {ob H'} hn b hb=>by
  obtain ⟨f0,f1,f2,f3,f4,f5⟩:=hfp b hb;refine ⟨hn b hb, ?_,fun z=>?_,.inl (List.mem_cons_of_mem _ hb),fun x c e=>(cown x c e).elim (f4 x c) fun q=>Nat.ne_of_gt (Nat.lt_of_lt_of_le (Nat.lt_succ_of_lt (by rw[hh3,sz3];exact Nat.lt_succ_of_lt (fplt b hb))) q),fun p hp=>?_⟩
  .show b≠s3.heap.objs.size
   rw[hh3,sz3];exact Nat.ne_of_lt (Nat.lt_succ_of_lt (fplt b hb))
  .rcases List.mem_cons.mp (I.stkSub _ z) with e | z
   .exact f1 e
   .exact f2 z
  .have e:p=(s.heap.objs.size,ob):=by simpa [blk] using hp
   subst e;exact Nat.ne_of_gt (fplt b hb)
 have loop:∀s₅:Shared,s₅={ s3 with heap:=h₁ }->
   codeAny 000 X.A (.compLoop 017 0 (.ref it) (.ref s.heap.objs.size) (compEnvC scope (cellsFrom (s3.heap.objs.size+1) scope.names 067) s3.heap.objs.size X.env))
    (RR (.ref s.heap.objs.size) s3.heap.objs.size) s₅:=by
  rintro s₅ rfl
  refine zhU (fun n s'=>∃(i:Nat) (acc:List V) (its:List Value) (k:Nat) (H':Hp),Vals acc its/\Inv 012 [028] (pick σ js) H' s'/\
   tn i s'.heap/\(∀b∈fp,H' b=none)/\W i n acc H') ?_ m0 ⟨0,[],[],0,H,.nil,I4,T.keep _ _ _ st (fun b hb o e=>keep1 b o (by rw[hh3];exact old3 b o e)),fun b hb=>(hfp b hb).1,w0⟩
  rintro n s' ⟨i,acc,its,k,H',rv,J1,st1,fr1,w1⟩
  rcases turn i n acc H' w1 with ⟨stop,hz,qn⟩ | ⟨go,hz,step⟩
  .refine thn (T.done 012 rfl rfl rfl hc i _ s' _ H' (fun _ _=>False) J1 (stat fr1) st1 stop) fun r s4 hx__=>?_
   obtain ⟨hr,I5⟩:=hx__;subst hr;obtain ⟨pe,pn,_⟩:=I5.pin 028 (by simp[blk]);have IX:Inv X pins σ H' s4:=I3.call' I5.os I5.base I5.hok I5.bare fun b hb=>by
    obtain ⟨h1,h2,h3,h4,h5⟩:=hex b hb;exact ⟨h1,h2,h4,hexp b hb⟩
   have IY:Inv X pins σ (upd H' s.heap.objs.size (.lst acc)) s4:=IX.adopt pn lL (.inr I.sz) lc lp ⟨hz,its,k,rv,pe⟩;obtain ⟨m',hm',_⟩:=I5.loc;refine hRR _ _ s4 m' H' acc IY hm' ⟨?_, ?_, ?_, ?_, ?_⟩ (qn _ pn)
   .rw[zaD (by rw[hh3,sz3];exact Nat.ne_of_gt (Nat.lt_succ_self _))];exact I5.free
   .rw[hh3,sz3];exact Nat.ne_of_gt (Nat.lt_succ_of_lt I.lt)
   .rw[hh3,sz3];exact Nat.le_succ_of_le I.sz
   .exact fun x c e=>by
     obtain ⟨v,q⟩:=I.cell x c e;rw[hh3,sz3];exact Nat.ne_of_lt (Nat.lt_succ_of_lt q.lt)
   .exact fun p hp=>by rw[hh3,sz3];exact Nat.ne_of_lt (Nat.lt_succ_of_lt (Heap.lt_size (I.pin p hp).1))
  .refine thn (T.item 012 rfl rfl rfl hc i _ s' _ H' (fun _ _=>False) J1 (stat fr1) st1 go) fun r s4 hx__=>?_
   obtain ⟨u,hr,h4⟩:=hx__;subst hr;refine thn h4 fun _ s5 hx__=>?_
   obtain ⟨x,H5,I5,r5,y5,st5,fr5⟩:=hx__;have I5':=I5.pinned (stat fr5) (T.obj _ _ st5);obtain ⟨hg,ht,he⟩:=hb s3 H (s.heap.objs.size::fp);refine thn (hg _ s5 _ H5 x u _ I5' r5 (hgk _ _ _ _ (step x H5 y5))) fun _ s6 hx__=>?_
   obtain ⟨σ6,H6,I6,q6,kk6⟩:=hx__;refine thn (ht _ s6 σ6 H6 _ I6 q6) fun b s7 hx__=>?_
   obtain ⟨H7,I7,q7⟩:=hx__;have fin:∀{σ8:St} {H8:Hp} {s8:Shared},Inv 012 ([028]++zhc fp s5.heap) σ8 H8 s8->
     tn (i+1) s8.heap/\(∀b∈fp,H8 b=none):=fun {σ8 H8 s8} I8=>by
    refine ⟨T.keep _ _ _ st5 fun b hb o e=>(I8.pin (b,o) 081).1,fun b hb=>?_⟩;obtain ⟨o,e,d⟩:=T.obj _ _ st5 b hb;exact (I8.pin (b,o) 081).2.1
   have wk:∀{H8:Hp} {s8:Shared} {pl:List 010},Inv 012 pl σ6 H8 s8->Inv 012 pl (pick σ js) H8 s8:=
    fun I8=>I8.weak (by rw[zjM,I8.len];exact capL.symm) fun i v e=>by
     have e':=e;unfold pick at e';rw[List.getElem?_map] at e'
     cases ej:js[i]? with
     | none=>rw[ej] at e';cases e'
     | some j=>
      cases j with
      | none=>rw[ej] at e';simp at e'
      | some j=>rw[kk6 i j ej];exact e
   have pinl:∀{H8:Hp} {s8:Shared},Inv 012 ([028]++zhc fp s5.heap) σ6 H8 s8->
     s8.heap.get? s.heap.objs.size=some { cls:=.type "list",data:=.seq its.toArray k }/\H8 s.heap.objs.size=none:=fun I8=>by
    obtain ⟨a1,a2,_⟩:=I8.pin 028 (List.mem_append_right _ (List.mem_append_left _ (List.mem_singleton.mpr rfl)));exact ⟨a1,a2⟩
   have lblk:s.heap.objs.size≠s3.heap.objs.size:=by rw[hh3,sz3];exact Nat.ne_of_lt (Nat.lt_succ_self _)
   have lbfs:s.heap.objs.size∉frs X.stack:=fun z=>by
    rcases List.mem_cons.mp (I.stkSub _ z) with e | z
    .exact lL e
    .exact lfs z
   cases b with
   | false=>
    obtain ⟨m',hm',w'⟩:=q7;obtain ⟨t8,f8⟩:=fin I7;exact ⟨m',hm',i+1,acc,its,k,H7,rv,(wk I7).pins_of (fun p hp=>by
     have e:p=028:=by simpa using hp
     subst e;exact ⟨(pinl I7).1,(pinl I7).2,lblk,lbfs,fun v z=>by cases z⟩),t8,f8,w'⟩
   | true=>
    rw[if_pos rfl];refine thn (he _ s7 σ6 H7 _ I7 q7) fun y s8 hx__=>?_
    obtain ⟨v,H8,I8,r8,m',hm',w'⟩:=hx__;obtain ⟨t8,f8⟩:=fin I8;obtain ⟨pl1,pl2⟩:=pinl I8;have hlen:=rv.length;refine append_at (hsz:=by show its.toArray.size<=sizeLine;rw[List.size_toArray,<-hlen];exact Nat.le_of_lt hz) pl1 fun h9 hs9 hD9=>?_
    have J0:Inv 012 [] (pick σ js) H8 s8:=(wk I8).pins_of fun p hp=>absurd hp (by simp)
    have J9:Inv 012 [] (pick σ js) H8 { s8 with heap:=h9 }:=
     J0.turned (t':=s8.toks) (it:=s.heap.objs.size) (fun b o hb e=>(hs9.2 b hb).trans e) pl2 lblk (.inl List.mem_cons_self) (fun x c e=>(cown x c e).elim (lc x c) fun q=>Nat.ne_of_gt (Nat.lt_of_lt_of_le (Nat.lt_succ_of_lt (by rw[hh3,sz3];exact Nat.lt_succ_self _)) q)) (fun p hp=>absurd hp (by simp[blk]))
    refine ⟨m',hm',i+1,acc++[v],its++[y],k+1,H8,rv.append (.cons r8 .nil),J9.pins_of (fun p hp=>?_),T.keep _ _ _ t8 (fun b hb o e=>(hs9.2 b (Nat.ne_of_lt (fplt b hb))).trans e),f8,w'⟩;have e:p=(s.heap.objs.size,{ cls:=.type "list",data:=.seq (its++[y]).toArray (k+1) }):=by simpa using hp
    subst e;refine ⟨?_,pl2,lblk,lbfs,fun v z=>by cases z⟩
    show h9.get? _=_
    rw[hD9];simp
 subst hs3;exact codeAny_compStart_list (loop _ rfl) (T.self _ 0 _ _ _ (T.keep _ _ _ st (fun b hb o e=>keep1 b o (by rw[hh3];exact old3 b o e))) (loop _ rfl))
theorem zqs {wi:TI} (hc:X.calm=true) (hi:PI X tgt iter wi) (hcap:zh0 X.N X.env.scope N' scope js=true) (hgk:GK js g) (hf:zfo X.env.scope scope=true) (hkind:scope.kind=.function)
  (hb:∀(s':Shared) (H':Hp) (ex:List Addr),PG 046 tgt g/\PF 046 ifs tt/\PE 046 elt te)
  (hs:∀x,foldedSetIterable iter X.env x=pure x:=by intro _;rfl):PE X 017 (tLC wi js g tt te):=by
 intro pins s σ H Q I h;have hnames:∀y∈scope.names,y.2=.local->scope.names.lookup y.1=some .local:=fun y hy e=>by
  have:=List.all_eq_true.mp hf y hy
  simp only[Bool.and_eq_true,Bool.or_eq_true,bne_iff_ne,ne_eq,decide_eq_true_eq] at this;exact this.2.resolve_left fun z=>z e
 have hclos:closureFor scope X.env=pure 067:=zoS fun y hy e=>by
  have:=List.all_eq_true.mp hf y hy
  simp only[Bool.and_eq_true,Bool.or_eq_true,bne_iff_ne,ne_eq,decide_eq_true_eq] at this;exact I.ok.has y.1 (this.1.2.resolve_left fun z=>z e)
 rw[eval_ListComp];refine wpAny_comprehension_free (use:=none) rfl hs hclos hkind hnames (thn (hi pins s σ H _ I h) fun v s1 h1=>thn h1 fun itv s2 h2=>?_);obtain ⟨it,fp,tn,J,H2,e,I2,T,st2,f2,go⟩:=h2;subst e;refine zko (Q:=Q) hc hkind hf hcap hgk I2 T st2 f2 go hb ?_;intro l C s' m' H' acc IY hn F q;exact ⟨m',hn,fun h' hs'=>⟨.ref l,_,F.turned IY hs',rfl,q⟩⟩
theorem zj6 {wi:TI} {i:Nat} {y:Str} {py spos:Pos} (hN:X.N.Nodup) (hiy:X.N[i]? = some y) (hy:Loc X.env.scope y)
  (hc:X.calm=true) (hi:PI X tgt iter wi) (hcap:zh0 X.N X.env.scope N' scope js=true) (hgk:GK js g) (hf:zfo X.env.scope scope=true) (hkind:scope.kind=.function)
  (hb:∀(s':Shared) (H':Hp) (ex:List Addr),PG 046 tgt g/\PF 046 ifs tt/\PE 046 elt te)
  (hsw:swapsWith 017 (some (.Name y py)) spos.line X.env=pure true:=by rfl)
  (hs:∀x,foldedSetIterable iter X.env x=pure x:=by intro _;rfl) (hfn:X.fn y=true\/X.env.scope.names.lookup y=some .local:=by first | exact .inl rfl | exact .inr rfl | assumption) :
  PS X (.Assign [.Name y py] 017 spos) (tAsg (tLC wi js g tt te) (zkP i)):=by
 intro pins s σ H D I h;have hnames:∀y∈scope.names,y.2=.local->scope.names.lookup y.1=some .local:=fun y hy e=>by
  have:=List.all_eq_true.mp hf y hy
  simp only[Bool.and_eq_true,Bool.or_eq_true,bne_iff_ne,ne_eq,decide_eq_true_eq] at this;exact this.2.resolve_left fun z=>z e
 have hclos:closureFor scope X.env=pure 067:=zoS fun y hy e=>by
  have:=List.all_eq_true.mp hf y hy
  simp only[Bool.and_eq_true,Bool.or_eq_true,bne_iff_ne,ne_eq,decide_eq_true_eq] at this;exact I.ok.has y.1 (this.1.2.resolve_left fun z=>z e)
 rw[exec_Assign_Name_used _ _ _ _ hsw];refine wpAny_bind (wpAny_standAt (wpAny_bind ?_))
 show wpAny _ X.A (do let _ <-comprehension 017 scope X.env _ (newList []) false (eval iter X.env) (some (assign (.Name y py) X.env))) _ _ s
 refine wpAny_bind (wpAny_mono (wpAny_comprehension_free (use:=some (assign (.Name y py) X.env)) (Q:=fun _ s'=>SP X pins D .next s') rfl hs hclos hkind hnames
  (thn (hi pins s σ H _ I h) fun v s1 h1=>thn h1 fun itv s2 h2=>?_)) (fun _ s' hq=>wpAny_pure (wpAny_pure hq)) fun _ _ e=>e)
 obtain ⟨it,fp,tn,J,H2,e,I2,T,st2,f2,go⟩:=h2;subst e;refine zko (Q:=fun x H1=>zkP i x σ H1 D.nx) hc hkind hf hcap hgk I2 T st2 f2 go hb ?_;intro l C s' m' H' acc IY hn F q
 show wpAny _ X.A (assign (.Name y py) X.env (.ref l)) _ _ s'
 refine wpAny_assign_Name (zia IY hN hiy hy (v:=.ref l) rfl (fun s4 I4 ⟨a,hsb,ha⟩=>?_) hfn);have Ca:C≠a:=by
  rcases ha with e | e
  .rw[e];exact F.ne
  .exact fun z=>F.cl y a e z.symm
 exact ⟨m',hn.sameBut hsb Ca,fun h' hs'=>⟨_,_,F.turned I4 hs',q⟩⟩
end
mutual
inductive Dn (H:Hp) (P:Addr->Prop):V->PyData->Prop where
 | non:Dn H P .non .none
 | bl (b:Bool):Dn H P (.bl b) (.bool b)
 | int (i:Int):Dn H P (.int i) (.int i)
 | str (x:Str):Dn H P (.str x) (.str x)
 | lst {a:Addr} {xs:List V} {ds:List PyData}:¬P a->H a=some (.lst xs)->Dns H P xs ds->Dn H P (.ref a) (.list ds)
 | tup {a:Addr} {xs:List V} {ds:List PyData}:¬P a->H a=some (.tup xs)->Dns H P xs ds->Dn H P (.ref a) (.tuple ds)
inductive Dns (H:Hp) (P:Addr->Prop):List V->List PyData->Prop where
 | nil:Dns H P [] []
 | cons {x:V} {d:PyData} {xs:List V} {ds:List PyData}:Dn H P x d->Dns H P xs ds->Dns H P (x::xs) (d::ds)
end
theorem Same.new {H:Hp} {p:Addr} {o:HO} (hn:H p=none):Same H (upd H p o):=fun b u e=>by rw[zaD (zax e hn)];exact e
theorem Dn.mapX {P P':Addr->Prop} {H H':Hp} (m:∀a o,H a=some o->¬P a->H' a=some o/\¬P' a) {v:V} {d:PyData} (h:Dn H P v d):Dn H' P' v d:=
 Dn.rec (motive_1:=fun v d _=>Dn H' P' v d) (motive_2:=fun v d _=>Dns H' P' v d) .non .bl .int .str (fun n h _ ih=>.lst (m _ _ h n).2 (m _ _ h n).1 ih) (fun n h _ ih=>.tup (m _ _ h n).2 (m _ _ h n).1 ih) .nil (fun _ _ a b=>.cons a b) h
theorem Dns.mapX {P P':Addr->Prop} {H H':Hp} (m:∀a o,H a=some o->¬P a->H' a=some o/\¬P' a) {v:List V} {d:List PyData} (h:Dns H P v d):Dns H' P' v d:=
 Dns.rec (motive_1:=fun v d _=>Dn H' P' v d) (motive_2:=fun v d _=>Dns H' P' v d) .non .bl .int .str (fun n h _ ih=>.lst (m _ _ h n).2 (m _ _ h n).1 ih) (fun n h _ ih=>.tup (m _ _ h n).2 (m _ _ h n).1 ih) .nil (fun _ _ a b=>.cons a b) h
theorem Dn.weak {P P':Addr->Prop} {H:Hp} (e:∀a,P' a->P a) {v:V} {d:PyData} (h:Dn H P v d):Dn H P' v d:=h.mapX fun a _ x n=>⟨x,fun z=>n (e a z)⟩
theorem Dns.length {P:Addr->Prop} {H:Hp}:∀{xs:List V} {ds:List PyData},Dns H P xs ds->xs.length=ds.length
 | _,_,.nil=>rfl
 | _,_,.cons _ t=>by simp[Dns.length t]
theorem Dns.getV {P:Addr->Prop} {H:Hp}:∀{xs:List V} {ds:List PyData} {i:Nat} {v:V},Dns H P xs ds->xs[i]? = some v->∃d,ds[i]? = some d/\Dn H P v d
 | _,_,_,_,.nil,e=>by simp at e
 | _,_,0,_,.cons a _,e=>by simp at e;subst e;exact ⟨_,rfl,a⟩
 | _,_,i+1,d,.cons _ t,e=>by
  obtain ⟨v,h1,h2⟩:=Dns.getV (i:=i) (v:=d) t (by simpa using e);exact ⟨v,by simpa using h1,h2⟩
theorem Dns.app {P:Addr->Prop} {H:Hp}:∀{xs ys:List V} {ds es:List PyData},Dns H P xs ds->Dns H P ys es->Dns H P (xs++ys) (ds++es)
 | _,_,_,_,.nil,s=>s
 | _,_,_,_,.cons r t,s=>.cons r (Dns.app t s)
theorem Dns.take {P:Addr->Prop} {H:Hp}:∀{xs:List V} {ds:List PyData} (n:Nat),Dns H P xs ds->Dns H P (xs.take n) (ds.take n)
 | _,_,0,_=>.nil
 | _,_,_+1,.nil=>.nil
 | _,_,n+1,.cons r t=>.cons r (Dns.take n t)
theorem Dns.drop {P:Addr->Prop} {H:Hp}:∀{xs:List V} {ds:List PyData} (n:Nat),Dns H P xs ds->Dns H P (xs.drop n) (ds.drop n)
 | _,_,0,r=>r
 | _,_,_+1,.nil=>.nil
 | _,_,n+1,.cons _ t=>Dns.drop n t
theorem Dns.rev {P:Addr->Prop} {H:Hp}:∀{xs:List V} {ds:List PyData},Dns H P xs ds->Dns H P xs.reverse ds.reverse
 | _,_,.nil=>.nil
 | _,_,.cons r t=>by rw[List.reverse_cons,List.reverse_cons];exact Dns.app (Dns.rev t) (.cons r .nil)
theorem Dns.ints {P:Addr->Prop} {H:Hp}:∀{xs:List V} {ns:List Int},Dns H P xs (ns.map PyData.int)->xs=ns.map V.int
 | _,[],h=>by cases h;rfl
 | _,n::ns,h=>by
  cases h with
  | cons a t=>cases a;rw[Dns.ints t];rfl
theorem Dns.ofInts {P:Addr->Prop} {H:Hp}:∀(ns:List Int),Dns H P 014 (ns.map PyData.int)
 | []=>.nil
 | n::ns=>.cons (.int n) (Dns.ofInts ns)
section
variable {X:Cx} {pins:List (Addr×Obj)} {σ:St} {H:Hp} {s:Shared} {P:Addr->Prop}
theorem rd_a (I:Inv X pins σ H s):(∀u,RelV .non u->∃as,Reads s.heap u .none as)/\(∀b u,RelV (.bl b) u->∃as,Reads s.heap u (.bool b) as)/\(∀i u,RelV (.int i) u->∃as,Reads s.heap u (.int i) as)/\(∀x u,RelV (.str x) u->∃as,Reads s.heap u (.str x) as):=
 ⟨fun u r=>by cases r;exact ⟨_,.none⟩,fun b u r=>by cases r;exact ⟨_,.bool b⟩,fun i u r=>by obtain ⟨t,rfl⟩:=r;exact ⟨_,.int i t⟩,fun x u r=>by obtain ⟨t,rfl⟩:=r;exact ⟨_,.str x t⟩⟩
theorem rd_l (I:Inv X pins σ H s) {a:Addr} {xs:List V} {ds:List PyData} (_:¬P a) (h:H a=some 098) (_:Dns H P xs ds) (ih:∀u,Vals xs u->∃as,ReadsAll s.heap u ds as) (u:Value) (r:RelV (.ref a) u):∃as,Reads s.heap u 050 as:=by
 cases r;obtain ⟨its,rv,⟨o,n,e,c,_,d⟩,_⟩:=I.list (SqL.of h);obtain ⟨as,q⟩:=ih _ rv;exact ⟨_,reads_list_at e c d (by simpa using q)⟩
theorem rd_t (I:Inv X pins σ H s) {a:Addr} {xs:List V} {ds:List PyData} (_:¬P a) (h:H a=some (.tup xs)) (_:Dns H P xs ds) (ih:∀u,Vals xs u->∃as,ReadsAll s.heap u ds as) (u:Value) (r:RelV (.ref a) u):∃as,Reads s.heap u (.tuple ds) as:=by
 cases r;obtain ⟨its,rv,⟨o,e,c,n,d⟩,_⟩:=I.tuple (SqT.of h);obtain ⟨as,q⟩:=ih _ rv;exact ⟨_,reads_tuple_at e c d (by simpa using q)⟩
theorem rd_c {x:V} {d:PyData} {xs:List V} {ds:List PyData} (_:Dn H P x d) (_:Dns H P xs ds) (i1:∀u,RelV x u->∃as,Reads s.heap u d as) (i2:∀u,Vals xs u->∃as,ReadsAll s.heap u ds as) (u:List Value) (r:Vals (x::xs) u):∃as,ReadsAll s.heap u (d::ds) as:=by
 cases r with
 | cons r1 r2=>
  obtain ⟨as,q⟩:=i1 _ r1;obtain ⟨bs,q'⟩:=i2 _ r2;exact ⟨_,.cons q q'⟩
theorem Dn.reads (I:Inv X pins σ H s) {v:V} {d:PyData} {u:Value} (h:Dn H P v d) (r:RelV v u):∃as,Reads s.heap u d as:=
 Dn.rec (motive_1:=fun v d _=>∀u,RelV v u->∃as,Reads s.heap u d as) (motive_2:=fun v d _=>∀u,Vals v u->∃as,ReadsAll s.heap u d as) (rd_a I).1 (rd_a I).2.1 (rd_a I).2.2.1 (rd_a I).2.2.2 (rd_l I) (rd_t I) (fun u r=>by cases r;exact ⟨_,.nil⟩) (rd_c (s:=s)) h u r
end
section
variable {X:Cx}
open PySem.SeqAt in
@[irreducible] def rEqD (f:Bool->Bool):R2:=fun x y H Q=>(∃i j,x=.int i/\y=.int j/\Q (.bl (f (decide (i=j)))) H)\/
 ∃(P P':Addr->Prop) (d e:PyData),Dn H P x d/\Dn H P' y e/\shaped d=true/\shaped e=true/\Q (.bl (f (PyData.eqv d e))) H
theorem zrE (hu:X.A.units+64 < cLine):OpR X (compareOp .Eq) (rEqD fun b=>b):=by
 intro pins s σ H x y v u Q I rx ry h;unfold rEqD at h;rcases h with ⟨i,j,rfl,rfl,q⟩ | ⟨P,P',d,e,hd,he,sd,se,q⟩
 .obtain ⟨t,rfl⟩:=rx;obtain ⟨t',rfl⟩:=ry;exact eq_int (by rw[Bool.beq_eq_decide_eq];exact ⟨.bl _,H,I,rfl,q⟩)
 .obtain ⟨as,ra⟩:=hd.reads I rx;obtain ⟨bs,rb⟩:=he.reads I ry;exact eq_dataH ra rb sd se hu ⟨.bl _,H,I,rfl,q⟩
theorem zrk (hu:X.A.units+64 < cLine):OpR X (compareOp .NotEq) (rEqD fun b=>!b):=by
 intro pins s σ H x y v u Q I rx ry h;unfold rEqD at h;rcases h with ⟨i,j,rfl,rfl,q⟩ | ⟨P,P',d,e,hd,he,sd,se,q⟩
 .obtain ⟨t,rfl⟩:=rx;obtain ⟨t',rfl⟩:=ry;exact ne_int (by rw[bne,Bool.beq_eq_decide_eq];exact ⟨.bl _,H,I,rfl,q⟩)
 .obtain ⟨as,ra⟩:=hd.reads I rx;obtain ⟨bs,rb⟩:=he.reads I ry;exact ne_dataH ra rb sd se hu ⟨.bl _,H,I,rfl,q⟩
open PySem.SeqAt in
theorem eqD {H:Hp} {f:Bool->Bool} {P P':Addr->Prop} {x y:V} {d e:PyData} {Q:VK} (hd:Dn H P x d) (he:Dn H P' y e) (sd:shaped d=true) (se:shaped e=true) (q:Q (.bl (f (PyData.eqv d e))) H):rEqD f x y H Q:=by
 unfold rEqD;exact .inr ⟨P,P',d,e,hd,he,sd,se,q⟩
end
def cutD {α:Type} (xs:List α) (lo hi:Option Int):List α:=(xs.drop (HT.sIx xs.length 0 lo)).take 0004
theorem Dns.cut {P:Addr->Prop} {H:Hp} {xs:List V} {ds:List PyData} (h:Dns H P xs ds) (lo hi:Option Int):Dns H P (cutV xs lo hi) (cutD ds lo hi):=by
 unfold cutV cutD;rw[h.length];exact (h.drop _).take _
section
variable {X:Cx}
theorem zml (hc:X.calm=true):CallR X (.builtin "sum") (fun xs H Q=>∃(x:V) (P:Addr->Prop) (ns:List Int),xs=[x]/\Dn H P x (.list (ns.map PyData.int))/\Q (.int ns.sum) H):=by
 intro pins s σ H xs us Q I r h;obtain ⟨x,P,ns,rfl,hd,q⟩:=h;obtain ⟨u,rfl,rx⟩:=zgf r
 cases hd with
 | lst n h t=>
  cases rx;obtain ⟨its,rv,pl,hz⟩:=I.list (SqL.of h);rw[t.ints] at rv;have hi:IntsAre its ns:=zfE rv;have hl:=pl.isList;obtain ⟨ys,hy⟩:=hi.allInts.items;rw[hy] at hl;refine sum_intListG (I.ok.hd hc) hl fun h' tk t' hk=>⟨.int ns.sum,H,I.kept hk,⟨t', ?_⟩,q⟩
  have e1:=hi.numsOf;have e2:numsOf its.toArray.toList=ys.toList.map (·.1):=by rw[hy];exact nums_intItems ys
  have e3:ns=ys.toList.map (·.1):=by rw[<-e1];simpa using e2
  rw[preSum_eq,List.take_of_length_le (by simp),<-e3]
theorem zlV (hc:X.calm=true):CallR X (.builtin "min") (fun xs H Q=>∃(x:V) (P:Addr->Prop) (ns:List Int),xs=[x]/\Dn H P x (.list (ns.map PyData.int))/\ns≠[]/\∀m,m∈ns->(∀a∈ns,m<=a)->Q (.int m) H):=by
 intro pins s σ H xs us Q I r h;obtain ⟨x,P,ns,rfl,hd,hne,q⟩:=h;obtain ⟨u,rfl,rx⟩:=zgf r
 cases hd with
 | lst n h t=>
  cases rx;obtain ⟨its,rv,pl,hz⟩:=I.list (SqL.of h);rw[t.ints] at rv;have hi:IntsAre its ns:=zfE rv;have hl:=pl.isList;obtain ⟨ys,hy⟩:=hi.allInts.items;rw[hy] at hl;have e2:numsOf its.toArray.toList=ys.toList.map (·.1):=by rw[hy];exact nums_intItems ys
  have e3:ns=ys.toList.map (·.1):=by rw[<-hi.numsOf];simpa using e2
  have hsz:0 < ys.size:=by
   rcases Nat.eq_zero_or_pos ys.size with z | z
   .exfalso;apply hne;rw[e3];simp[Array.size_eq_zero_iff.mp z]
   .exact z
  refine min_intList (I.ok.hd hc) hl hsz fun v h' tk hv hk=>?_
  obtain ⟨t2,rfl⟩:=intItems_at hv;obtain ⟨h1,h2⟩:=argBest_lt (numAt ys) (ys.size - 1);refine ⟨.int _,H,I.kept hk,⟨t2,rfl⟩,q _ ?_ fun a ha=>?_⟩
  .rw[numAt_eq,e3];exact getD_mem (by rw[List.length_map,Array.length_toList];omega)
  .rw[e3] at ha;obtain ⟨j,hj,rfl⟩:=mem_getD ha;rw[List.length_map,Array.length_toList] at hj;rw[<-numAt_eq];exact h2 j ∅
theorem zir:CallR X (.builtin "sorted") (fun xs H Q=>∃(x:V) (P:Addr->Prop) (ns:List Int),xs=[x]/\Dn H P x (.list (ns.map PyData.int))/\ns.length < 64/\
  ∀(l:Addr) (ms:List Int),H l=none->ms.Perm ns->ms.Pairwise (·<=·)->Q (.ref l) (upd H l (.lst (ms.map V.int)))):=by
 intro pins s σ H xs us Q I r h;obtain ⟨x,P,ns,rfl,hd,h64,q⟩:=h;obtain ⟨u,rfl,rx⟩:=zgf r
 cases hd with
 | @lst a _ _ n h t=>
  cases rx;obtain ⟨its,rv,pl,hz⟩:=I.list (SqL.of h);rw[t.ints] at rv;have hi:IntsAre its ns:=zfE rv;have hlen:=rv.length;rw[List.length_map] at hlen;refine sorted_ints pl.isList hi ∅ fun out ns' a1 a2 a3=>?_
  obtain ⟨e,he⟩:=sortedAll_at s.heap its out;have hf:H (s.heap.objs.size+1)=none:=I.hok.fresh (Nat.le_succ _);refine ⟨.ref _,_,I.laid (t':=s.toks) (o:=.lst (ns'.map V.int)) (fun b o e=>sortedAll_old e) (Nat.le_succ _) ?_,rfl,q _ ns' hf a2 a3⟩;have hl2:ns'.length=ns.length:=a2.length_eq;refine ⟨by rw[List.length_map,hl2];have:=hz;rw[t.ints,List.length_map] at this;exact this,out.toList,e,zgk a1, ?_⟩;rw[he]
  all_goals rfl
theorem zps:MtR X "int.bit_length" 0022:=by
 intro pins s σ H x xs v us Q I rx rs h;obtain ⟨i,rfl,rfl,q⟩:=h;obtain ⟨t,rfl⟩:=rx;cases rs;exact call_int_bit_length ⟨.int _,H,I.tok _,⟨_,rfl⟩,q⟩
structure zkl (P:Program) (w:World) (K:PySem.W.Frag) (mg:Str->Option Value) (base:Heap) (x:Str) (ps:List Str) (k:Nat) (sp:Sp):Prop where
 ex:∃(f:Addr) (fd:FuncData),mg x=some (.ref f)/\PySem.W.keepIn K (.ref f)=true/\Binds K fd ps []/\FnOk P w K mg base CX0 k f fd ps sp/\∃oc od osl,K.lookup f=some ⟨oc,od,.func fd,osl⟩
def Ite (K:PySem.W.Frag) (l:Addr):It:=
 ⟨fun i H=>∃xs x,SqL K H l xs/\xs[i]? = some x,fun i H v H'=>∃t x,v=.ref t/\H t=none/\H'=upd H t (.tup [.int i,x])/\∀xs,SqL K H l xs->xs[i]? = some x,fun i H=>∃xs,SqL K H l xs/\xs.length<=i⟩
theorem zm5 {P:Program} {w:World} {K:PySem.W.Frag} {elts:List Expr} {k:Nat} {tp:Pos} (l e it:Addr) (hne:e≠it):Turn P w K (.Tuple elts k tp) (Ite K l) [e,it] e (fun i h=>(∃old,IsEnum h e it i old)/\h.IsListIter it l i) where
 mem:=by simp
 obj:=fun i h st b hb=>by
  obtain ⟨⟨old,he⟩,⟨o,ho,hc,hd⟩⟩:=st;rcases List.mem_cons.mp hb with z | hb
  .subst z;exact ⟨_,he,fun v z=>by cases z⟩
  .have z:b=it:=by simpa using hb
   subst z;exact ⟨o,ho,fun v z=>by rw[hd] at z;cases z⟩
 keep:=fun i h h' st kk=>by
  obtain ⟨⟨old,he⟩,hit⟩:=st;exact ⟨⟨old,kk e (by simp) _ he⟩,hit.at fun o q=>kk it (by simp) o q⟩
 item:=by
  intro X hP hw hK hc i pins s σ H E I hf st hg;subst hP hw hK;obtain ⟨⟨old,he⟩,hit⟩:=st;obtain ⟨xs,x,hq,hx⟩:=hg;obtain ⟨its,rv,p,hz⟩:=I.list hq;obtain ⟨u,hu,ru⟩:=rv.get hx;refine wpAny_pyNext_enum_item he hit p.isList (x:=u) (by simpa using hu) hne fun h' ho hit' hT hsz hk=>?_
  refine ⟨_,rfl,wpAny_letOwnedTupleGo_enum ho fun h'' he'' hs''=>?_⟩;have hfresh:H s.heap.objs.size=none:=I.hok.fresh 022;have helt:e < s.heap.objs.size:=Heap.lt_size he;have kk:∀b o,b≠e->b≠it->s.heap.get? b=some o->h''.get? b=some o:=fun b o n1 n2 q=>(hs''.2 b n1).trans (hk b o n1 n2 q)
  have hT'':h''.get? s.heap.objs.size=some { cls:=.type "tuple",data:=.seq #[.int i s.toks,u] }:=(hs''.2 _ (Nat.ne_of_gt helt)).trans hT;have nfp:∀b u',H b=some u'->b≠e/\b≠it:=fun b u' q=>⟨fun z=>(by rw[z,(hf e (by simp)).1] at q;cases q),fun z=>(by rw[z,(hf it (by simp)).1] at q;cases q)⟩
  obtain ⟨o2,ho2,c2,d2⟩:=id hit';have hit'':h''.IsListIter it l (i+1):=⟨o2,(hs''.2 it hne.symm).trans ho2,c2,d2⟩;have J:Inv X pins σ (upd H s.heap.objs.size (.tup [.int i,x])) { s with heap:=h'',toks:=s.toks+1 }:=by
   refine I.step (h':=h'') (g':=s.gens) (d':=s.drawn) (t':=s.toks+1) (ch:=[e,it]) (fun b hb=>?_) (fun b o _ _ hcn q _=>kk b o (fun z=>hcn (by simp[z])) (fun z=>hcn (by simp[z])) q)
    (fun b o _ _ hcn q _=>⟨o.slots,kk b o (fun z=>hcn (by simp[z])) (fun z=>hcn (by simp[z])) q⟩) (fun b o _ q nn=>by rw[zaD (Nat.ne_of_lt (Heap.lt_size q))];exact nn)
    (fun b o hcn q=>⟨o,kk b o (fun z=>hcn (by simp[z])) (fun z=>hcn (by simp[z])) q⟩) (fun b ys q=>by rw[zaD (zax q hfresh)];exact q) (fun b o u' q=>by rw[zaD (zax q hfresh)];exact q)
    (fun b ps q=>⟨#[],by rw[zaD (zax q hfresh),q];simp⟩) (fun m hm=>?_) ?_ I.bare
   .obtain ⟨f0,f1,f2,f3,f4,f5⟩:=hf b hb;exact ⟨f3,f1,f4,f5⟩
   .obtain ⟨o,es,ep,hoL,r⟩:=hm;exact ⟨o,es,ep,kk _ o (fun z=>(hf e (by simp)).2.1 z.symm) (fun z=>(hf it (by simp)).2.1 z.symm) hoL,r⟩
   .intro b u' q
    by_cases hb:b=s.heap.objs.size
    .subst hb;rw[zbu] at q;cases q;exact ⟨by show 2<=sizeLine;decide,[.int i s.toks,u],.cons ⟨_,rfl⟩ (.cons ru .nil),⟨_,hT'',rfl,_,rfl⟩⟩
    .rw[zaD hb] at q;refine (I.hok b u' q).stay (fun c v hcc qq=>kk c v ?_ ?_ qq) (fun c qq=>by rw[zaD (zax qq hfresh)];exact qq) fun c ys qq=>by rw[zaD (zax qq hfresh)];exact qq
     .rcases hcc with z | z
      .rw[z];exact (nfp b u' q).1
      .exact (nfp c _ z).1
     .rcases hcc with z | z
      .rw[z];exact (nfp b u' q).2
      .exact (nfp c _ z).2
  refine ⟨.ref s.heap.objs.size,_,J,rfl,⟨_,x,rfl,hfresh,rfl,fun ys hy=>by rw[I.list_inj hy hq];exact hx⟩,⟨⟨_,by simpa using he''⟩,hit''⟩,fun b hb=>?_⟩;rw[zaD]
  .exact (hf b hb).1
  .rcases List.mem_cons.mp hb with z | hb
   .rw[z];exact Nat.ne_of_lt helt
   .have z:b=it:=by simpa using hb
    rw[z];obtain ⟨o3,ho3,_⟩:=hit;exact Nat.ne_of_lt (Heap.lt_size ho3)
 done:=by
  intro X hP hw hK hc i pins s σ H E I hf st hg;subst hP hw hK;obtain ⟨⟨old,he⟩,hit⟩:=st;obtain ⟨xs,hq,hx⟩:=hg;obtain ⟨its,rv,p,hz⟩:=I.list hq;have hl:=rv.length;obtain ⟨f0,f1,f2,f3,f4,f5⟩:=hf it (by simp);exact wpAny_pyNext_enum_end (I.ok.hd hc) he hit p.isList (by simp;omega) fun h' eb=>⟨rfl,I.turned (t':=s.toks) (fun b o hb q=>eb b o hb q) f0 f1 f3 f4 f5⟩
 self:=fun _ _ _ _ _ st h=>by
  obtain ⟨⟨old,he⟩,_⟩:=st;exact wpAny_pyIter_enum he h
theorem Turn.imp {P:Program} {w:World} {K:PySem.W.Frag} {tg:Expr} {J J':It} {fp:List Addr} {it:Addr} {tn:Nat->Heap->Prop} (T:Turn P w K tg J fp it tn)
  (hg:∀i H,J'.go i H->J.go i H) (hy:∀i H x H',J'.go i H->J.yld i H x H'->J'.yld i H x H') (hs:∀i H,J'.stop i H->J.stop i H):Turn P w K tg J' fp it tn where
 mem:=T.mem
 obj:=T.obj
 keep:=T.keep
 item:=fun X a b c d i pins s σ H E I hf st go=>thn (T.item X a b c d i pins s σ H E I hf st (hg i H go)) fun r s1 ⟨u,e,h⟩=>⟨u,e,thn h fun _ s2 ⟨x,H',I',r',y,z⟩=>⟨x,H',I',r',hy i H x H' go y,z⟩⟩
 done:=fun X a b c d i pins s σ H E I hf st stop=>T.done X a b c d i pins s σ H E I hf st (hs i H stop)
 self:=T.self
def ItL (a:Addr):It:=⟨fun i H=>∃xs x,H a=some 098/\xs[i]? = some x,fun i H x H'=>H'=H/\∀xs,H a=some 098->xs[i]? = some x,fun i H=>∃xs,H a=some 098/\xs.length<=i⟩
def ItE (l:Addr):It:=
 ⟨fun i H=>∃xs x,H l=some 098/\xs[i]? = some x,fun i H v H'=>∃t x,v=.ref t/\H t=none/\H'=upd H t (.tup [.int i,x])/\∀xs,H l=some 098->xs[i]? = some x,fun i H=>∃xs,H l=some 098/\xs.length<=i⟩
theorem zsW {P:Program} {w:World} {K:PySem.W.Frag} {tg:Expr} (a it:Addr):Turn P w K tg (ItL a) [it] it (fun i h=>h.IsListIter it a i):=
 (zl9 (K:=K) a it).imp (fun i H ⟨xs,x,h,e⟩=>⟨xs,x,SqL.of h,e⟩) (fun i H x H' _ ⟨e,y⟩=>⟨e,fun xs h=>y xs (SqL.of h)⟩) (fun i H ⟨xs,h,e⟩=>⟨xs,SqL.of h,e⟩)
theorem zrt {P:Program} {w:World} {K:PySem.W.Frag} {elts:List Expr} {k:Nat} {tp:Pos} (l e it:Addr) (hne:e≠it):Turn P w K (.Tuple elts k tp) (ItE l) [e,it] e (fun i h=>(∃old,IsEnum h e it i old)/\h.IsListIter it l i):=
 (zm5 (K:=K) l e it hne).imp (fun i H ⟨xs,x,h,e⟩=>⟨xs,x,SqL.of h,e⟩) (fun i H x H' _ ⟨t,z,h1,h2,h3,y⟩=>⟨t,z,h1,h2,h3,fun xs h=>y xs (SqL.of h)⟩) (fun i H ⟨xs,h,e⟩=>⟨xs,SqL.of h,e⟩)
def iE (ta:TA):TI:=fun σ H R=>ta σ H fun vs H1=>∃l xs,vs=[.ref l]/\H1 l=some 098/\R (ItE l) H1
theorem pi_E {a:Expr} {ta:TA} {p pos:Pos} {elts:List Expr} {k:Nat} {tp:Pos} (hg:Gl X "enumerate") (hm:X.mg "enumerate"=none) (ha:PA X [a] ta) (hs:starEach [a] X.env=[(false,eval a X.env)]:=by rfl) :
  PI X (.Tuple elts k tp) (.Call (.Name "enumerate" p) [a] [] pos) (iE ta):=by
 intro pins s σ H R I h;refine Call_ (zgs I hg hm boot_enumerate 064);obtain ⟨l,xs,e,hq,q⟩:=q1;subst e;obtain ⟨u,rfl,ru⟩:=zgf r1;cases ru;obtain ⟨its,rv,pl,hz⟩:=I1.list (SqL.of hq);refine call_enumerate_list pl.isList fun h' he hit hsz hk=>?_
 have I2:Inv X pins σ H1 { s1 with heap:=h' }:=I1.kept (t':=s1.toks) hk;refine wpAny_pyIter_enum (s:={ s1 with heap:=h' }) he ?_;refine ⟨s1.heap.objs.size+1,[s1.heap.objs.size+1,s1.heap.objs.size],_,ItE l,H1,rfl,I2,zrt l _ _ (Nat.ne_of_gt (Nat.lt_succ_self _)),⟨⟨_,by simpa using he⟩,hit⟩,fun b hb=>?_,q⟩;have hge:s1.heap.objs.size<=b:=by
  rcases List.mem_cons.mp hb with z | hb
  .rw[z];exact Nat.le_succ _
  .have z:b=s1.heap.objs.size:=by simpa using hb
   rw[z];exact Nat.le_refl _
 exact I1.fpOk hge (I1.hok.fresh hge)
end
section
variable {X:Cx}
def zkX (i j:Int):Prop:=0 < j/\j < 2 ^ 200
theorem znf:OpR X (binaryOp .FloorDiv) (rI zkX fun i j=>.int (i / j)):=opI fun i j _ _ _ _ _ hc q=>by
 have h1:(0:Int) < j:=hc.1;have h2:j < 2 ^ 200:=hc.2;refine floordiv_int ∅ (by rw[Int.fdiv_eq_ediv_of_nonneg i ∅];exact q) (.inl (PyProof.noPylong_of_log2 ?_));have h3:j.natAbs < 2 ^ 200:=by omega
 have h4:j.natAbs≠0:=by omega
 exact Nat.lt_trans ((Nat.log2_lt h4).mpr h3) (by decide)
theorem zjs {i:Int} {j:Nat} {p pos:Pos}:PE X (.UnaryOp .USub (.Constant (.int i) j p) pos) (tC (.int (-i))):=by
 intro pins s σ H Q I h;exact zrv un_neg zoL pins s σ H Q I ⟨i,rfl,h⟩
theorem zhd {x:Str} {n:Int} {pos:Pos} (hg:Gl X x) (h:∃t,X.mg x=some (.int n t)) (hd:065=false:=by decide +kernel):PE X (.Name x pos) (tC (.int n)):=by
 obtain ⟨t,h⟩:=h;exact zo9 hg h ⟨t,rfl⟩ hd
end
theorem zm7 {P:Program} {w:World} {K:PySem.W.Frag} {mg:Str->Option Value} {base:Heap} {x:Str} {st:Stmt} {N ps:List Str} {k:Nat} {sp:Sp} (d:∃f fd,Fun K x x st f fd/\mg x=some (.ref f))
  (hb:∀(kV doc pm:Value) (an:Option Addr) (cdv ct:Value) (us:List Value),us.length=ps.length->bindArgs 021 ⟨us,[]⟩=pure (ps.zip us))
  (S:zam N ps (zae st)) (len:∀vs H Q E,sp vs H Q E->vs.length=ps.length)
  (hbody:∀(f:Addr) (cdv:Value) (A:Around) (outer:List Env) (s:Shared) (H:Hp) (vs:List V) (Q:VK) (E:XK),Room k 0010->sp vs H Q E->
   ∃t,PSs (cxOf CX0 P w K mg base N x (zae st) f cdv A outer s H E).nox (zcg st) t/\t { nx:=fun _ H'=>Q .non H',rt:=Q } (start N vs) H):zkl P w K mg base x ps (k+1) sp:=by
 obtain ⟨f,fd,F,hm⟩:=d;refine ⟨f,fd,hm,F.kp,F.binds hb,F.ok S len fun cdv A outer s H vs Q E hr h=>hbody f cdv A outer s H vs Q E hr h, ?_⟩;obtain ⟨oc,od,_,_,_,_,_,_,osl,_,lk,_⟩:=F.ex;exact ⟨oc,od,osl,lk⟩
theorem zuY {P:Program} {w:World} {K:PySem.W.Frag} {mg:Str->Option Value} {x p:Str} {st:Stmt} {k:Nat} {sp:Sp} {fa:Addr} (d:∃f fd,Fun K x x st f fd/\mg x=some (.ref f))
  (hb:∀(kV doc pm:Value) (an:Option Addr) (cdv ct u:Value),bindArgs 021 ⟨[u],[]⟩=pure [(p,u)])
  (C:∀base,zkl P w K mg base x [p] k sp) (hmg:mg x=some (.ref fa)) :
  ∃fd:FuncData,(∀(s:Shared) (u:Value),BindsTo s fd ⟨[u],[]⟩ [(p,u)])/\∀base:Heap,K.In base->base.Ns mainGlobals mg->FnOk P w K mg base CX0 k fa fd [p] sp:=by
 obtain ⟨f,fd,F,hm⟩:=d;rw[hmg] at hm;cases hm;refine ⟨fd,fun s u=>?_,fun base _ _=>?_⟩
 .obtain ⟨oc,od,kV,doc,pm,an,cdv,ct,osl,rfl,lk,hcd⟩:=F.ex;exact .of_eq (hb kV doc pm an cdv ct u)
 .obtain ⟨f',fd',h1,_,_,h4,oc',od',osl',lk'⟩:=(C base).ex;rw[hmg] at h1;cases h1;obtain ⟨oc,od,_,_,_,_,_,_,osl,_,lk,_⟩:=F.ex;rw[lk'] at lk;cases lk;exact h4
section
variable {js:List (Option Nat)} {g:TG} {tt:TT} {te:TE} {σ:St} {H:Hp} {Q:VK}
end
end L2
namespace L2
open PySem PySem.Spec PySem.Calls PySem.W PyProof.Rows
structure XCls (K:Frag) (C:Addr):Prop where
 ga:findIn K (.ref C) "__getattribute__"=some (some (.builtin "BaseException.__getattribute__"))
 gn:findIn K (.ref C) "__getattr__"=some none
 cl:findIn K (.ref C) "__class__"=some (some (.builtin "object.__class__"))
 sb:subIn K (.ref C) (.type "BaseException")=some true
 so:subIn K (.ref C) (.type "object")=some true
 is:(clsIn K C).isSome=true
 ex:excIn K C [.type "ValueError",.type "Exception",.type "BaseException",.type "object"] "ValueError.__new__"=true
section
variable {prog:Program} {w:World} {A:Around} {E:Value->Shared->Prop} {h:Heap} {g:Array GenState} {d:Drawn} {t:Nat} {os:OsState} {a C:Addr} {o:Obj} {K:Frag}
def XAt (a C:Addr) (h:Heap):Prop:=∃o,h.get? a=some o/\o.cls=.ref C
end
structure FlyU (P:Program) (w:World) (base:Heap) (l:List Env) (H H':Hp) (h B h':Heap):Prop where
 st:base.StaysIn B
 al:∀b o,h.get? b=some o->b∉frs l->∃o',B.get? b=some o'
 kp:∀b o,h.get? b=some o->H b=none->b∉frs l->B.get? b=some o
 tr:∀b u,H' b=some u->∃o,B.get? b=some o
 un:Un (frs l) [] H H' h h'
 ok:HOk P w H' h'
def CXF (P:Program) (w:World) (base:Heap):CXT:=fun outer H s E e s'=>
 ∃(ea:Addr) (cls a0:Value) (H':Hp) (B:Heap),e=.ref ea/\s'.os=s.os/\AllBare s'.gens/\FlyU P w base outer H H' s.heap B s'.heap/\Heap.FlyingW B outer ea cls a0 s'.heap/\E cls none H'
theorem zg7 {h base:Heap} {l:List Env} (f:h.FunFrames base l) {b:Addr} (hb:b∈frs l):base.get? b=none/\∃o,h.get? b=some o/\∀vs,o.data≠.fields vs:=f.mem hb
theorem FlyU.step {P:Program} {w:World} {base:Heap} {l:List Env} {H H':Hp} {h B h1 h2:Heap} (F:FlyU P w base l H H' h B h1) (s1:B.StaysIn h1) (s2:B.StaysIn h2) (up:h1.UpToSlots h2) (fr:h1.FunFrames B l) :
  FlyU P w base l H H' h B h2:=by
 refine ⟨F.st,F.al,F.kp,F.tr,⟨fun b o e n hb _=>s2 b o (F.kp b o e n hb),fun b o e n hb hx=>?_,F.un.free,fun b o e hx=>?_,F.un.tups,F.un.frzs,F.un.tbls⟩,fun a o e=>?_⟩
 .obtain ⟨sl,e1⟩:=F.un.slot b o e n hb hx;obtain ⟨_,o',e2,nf⟩:=zg7 fr hb;rw[e1] at e2;cases e2;obtain ⟨sl',e3⟩:=up b _ e1 nf;exact ⟨sl',e3⟩
 .by_cases hb:b∈frs l
  .obtain ⟨_,o',e2,nf⟩:=zg7 fr hb;obtain ⟨sl',e3⟩:=up b _ e2 nf;exact ⟨_,e3⟩
  .obtain ⟨o',e'⟩:=F.al b o e hb;exact ⟨o',s2 b o' e'⟩
 .refine (F.ok a o e).stay (fun b u hb q=>?_) (fun _ q=>q) fun _ _ q=>q
  have ht:∃v,H' b=some v:=by
   rcases hb with rfl | hb
   .exact ⟨o,e⟩
   .exact ⟨_,hb⟩
  obtain ⟨v,hv⟩:=ht;obtain ⟨o',e'⟩:=F.tr b v hv;have z:=s1 b o' e';rw[q] at z;cases z;exact s2 b u e'
section
variable {X:Cx} {pins:List (Addr×Obj)} {σ:St} {H:Hp} {s:Shared}
def XeIs (X:Cx) (E:XK):Prop:=X.xe=fun e s'=>wpAny 000 X.A (leaving X.env e) (fun _ s''=>CXF X.prog X.w X.base X.outer X.H₀ X.s₀ E e s'') (fun e' s''=>CXF X.prog X.w X.base X.outer X.H₀ X.s₀ E e' s'') s'
theorem znQ {E:XK} (hs:X.stack=X.env::X.outer) (hf:X.env.frame=some X.env.locals) (hx:X.ex=[]) (xe:XeIs X E):zie (CXF X.prog X.w X.base) X E:=by
 intro pins σ H s e s' I h;obtain ⟨ea,cls,a0,H',B,rfl,os,ba,F,fl,q⟩:=h;unfold XeIs at xe;rw[xe];rw[hs] at fl F;refine wpAny_leaves_onW (by rw[I.ok.frames,hs]) hf fl fun h' f1 f2=>?_
 refine ⟨ea,cls,a0,H',B,rfl,os.trans I.os,ba, ?_,f1,q⟩;have nx:∀b:Addr,b∉X.ex:=fun b z=>by rw[hx] at z;cases z
 have nofr:∀b o,X.s₀.heap.get? b=some o->b∉frs X.outer->b∉frs (X.env::X.outer):=fun b o e hb hb'=>by
  rw[<-hs] at hb';rcases List.mem_cons.mp (I.stkSub b hb') with z | z
  .exact absurd (z ▸ Heap.lt_size e) (Nat.not_lt.mpr I.ok.above)
  .exact hb z
 have G:=F.step fl.1 f1.1 f2 fl.2.2.1;have base:Un X.fs [] X.H₀ H X.s₀.heap s.heap:=by have q:=I.base;rw[hx] at q;exact q
 have sub:∀b∈X.fs,b∈frs (X.env::X.outer):=fun b hb=>by
  obtain ⟨v,hv,z⟩:=List.mem_filterMap.mp hb;exact List.mem_filterMap.mpr ⟨v,List.mem_cons_of_mem _ hv,z⟩
 have all:Un (frs (X.env::X.outer)) [] X.H₀ H' X.s₀.heap h':=(base.mono sub fun _ z=>z).trans G.un;refine ⟨F.st,fun b o e hb=>?_,fun b o e n hb=>?_,F.tr,⟨fun b o e n hb hx'=>all.keep b o e n (nofr b o e hb) hx',fun b o e n hb hx'=>all.slot b o e n (sub b hb) hx',all.free,all.there,all.tups,all.frzs,all.tbls⟩,G.ok⟩
 .obtain ⟨o',e'⟩:=base.there b o e (by simp);exact F.al b o' e' (nofr b o e hb)
 .exact F.kp b o (base.keep b o e n hb (by simp)) (base.free b o e n (by simp)) (nofr b o e hb)
end
section
variable {X:Cx}
end
section
variable {X:Cx} {pins:List (Addr×Obj)} {σ:St} {H:Hp} {s:Shared}
end
section
variable {X:Cx}
structure zmE (P:Program) (w:World) (K:PySem.W.Frag) (mg:Str->Option Value) (base:Heap) (x:Str) (ps:List Str) (k:Nat) (sp:Sp):Prop where
 ex:∃(f:Addr) (fd:FuncData),mg x=some (.ref f)/\PySem.W.keepIn K (.ref f)=true/\Binds K fd ps []/\FnOk P w K mg base (CXF P w base) k f fd ps sp
end
def ItZ (l1 l2:Addr):It:=
  ⟨fun i H=>∃xs x ys y,H l1=some 098/\xs[i]? = some x/\H l2=some (.lst ys)/\ys[i]? = some y,
   fun i H v H'=>∃t x y,v=.ref t/\H t=none/\H'=upd H t (.tup [x,y])/\(∀xs,H l1=some 098->xs[i]? = some x)/\∀ys,H l2=some (.lst ys)->ys[i]? = some y,
   fun i H=>∃xs ys,H l1=some 098/\H l2=some (.lst ys)/\(xs.length<=i\/ys.length<=i)⟩
structure ZA (z TI TO i1 i2:Addr):Prop where
 TIz:TI≠z
 TOz:TO≠z
 i1z:i1≠z
 i2z:i2≠z
 TITO:TI≠TO
 TIi1:TI≠i1
 TIi2:TI≠i2
 TOi1:TO≠i1
 TOi2:TO≠i2
 i12:i1≠i2
theorem ZA.apart {z TI TO i1 i2 l1 l2:Addr} (D:ZA z TI TO i1 i2) {H:Hp} {o1 o2:HO} (h1:H l1=some o1) (h2:H l2=some o2) (hf:∀b∈[z,TI,TO,i1,i2],H b=none):ZipApart z TI TO i1 i2 l1 l2:=
 ⟨D.TIz,D.TOz,D.i1z,D.i2z,D.TITO,D.TIi1,D.TIi2,D.TOi1,D.TOi2,D.i12,zax h1 (hf _ (by simp)),zax h1 (hf _ (by simp)),zax h1 (hf _ (by simp)),zax h1 (hf _ (by simp)),
  zax h2 (hf _ (by simp)),zax h2 (hf _ (by simp)),zax h2 (hf _ (by simp)),zax h2 (hf _ (by simp))⟩
theorem zrb {P:Program} {w:World} {K:PySem.W.Frag} {elts:List Expr} {k:Nat} {tp:Pos} (l1 l2 z TI TO i1 i2:Addr) (D:ZA z TI TO i1 i2) :
  Turn P w K (.Tuple elts k tp) (ItZ l1 l2) [z,TI,TO,i1,i2] z (fun i h=>IsZip h z TI TO .none/\IsPair h TI (.ref i1) (.ref i2)/\(∃a b,IsPair h TO a b)/\h.IsListIter i1 l1 i/\h.IsListIter i2 l2 i) where
 mem:=by simp
 obj:=fun i h st b hb=>by
  obtain ⟨hz,hTI,⟨a,c,hTO⟩,⟨o1,ho1,hc1,hd1⟩,⟨o2,ho2,hc2,hd2⟩⟩:=st;simp only[List.mem_cons,List.not_mem_nil,or_false] at hb;rcases hb with rfl | rfl | rfl | rfl | rfl
  .exact ⟨_,hz,fun v z=>by cases z⟩
  .exact ⟨_,hTI,fun v z=>by cases z⟩
  .exact ⟨_,hTO,fun v z=>by cases z⟩
  .exact ⟨_,ho1,fun v z=>by rw[hd1] at z;cases z⟩
  .exact ⟨_,ho2,fun v z=>by rw[hd2] at z;cases z⟩
 keep:=fun i h h' st kk=>by
  obtain ⟨hz,hTI,⟨a,c,hTO⟩,h1,h2⟩:=st;exact ⟨kk z (by simp) _ hz,kk TI (by simp) _ hTI,⟨a,c,kk TO (by simp) _ hTO⟩,h1.at fun o q=>kk i1 (by simp) o q,h2.at fun o q=>kk i2 (by simp) o q⟩
 item:=by
  intro X hP hw hK hc i pins s σ H E I hf st hg;subst hP hw hK;obtain ⟨hz,hTI,⟨a,c,hTO⟩,h1,h2⟩:=st;obtain ⟨xs,x,ys,y,hq1,hx,hq2,hy⟩:=hg;obtain ⟨its1,rv1,p1,hz1⟩:=I.list (SqL.of hq1);obtain ⟨its2,rv2,p2,hz2⟩:=I.list (SqL.of hq2);obtain ⟨u1,hu1,ru1⟩:=rv1.get hx;obtain ⟨u2,hu2,ru2⟩:=rv2.get hy;have DA:=D.apart hq1 hq2 (fun b hb=>(hf b hb).1);refine wpAny_pyNext_zip_item DA hz hTI hTO h1 h2 p1.isList p2.isList (x:=u1) (y:=u2) (by simpa using hu1) (by simpa using hu2) fun h' a1 a2 a3 a4 a5 a6 hk=>?_
  refine ⟨_,rfl,wpAny_letOwnedTupleGo_zip a1 fun h'' hz'' hs''=>?_⟩;have hfresh:H s.heap.objs.size=none:=I.hok.fresh 022;have zlt:z < s.heap.objs.size:=Heap.lt_size hz;have kk:∀b o,b≠z->b≠TO->b≠i1->b≠i2->s.heap.get? b=some o->h''.get? b=some o:=fun b o n1 n2 n3 n4 q=>(hs''.2 b n1).trans (hk b o n1 n2 n3 n4 q)
  have hT'':h''.get? s.heap.objs.size=some { cls:=.type "tuple",data:=.seq #[u1,u2] }:=(hs''.2 _ (Nat.ne_of_gt zlt)).trans a5;have nf:∀b u',H b=some u'->∀c∈[z,TI,TO,i1,i2],b≠c:=fun b u' q c hc e=>by rw[e,(hf c hc).1] at q;cases q
  have nc:∀b,b∉[z,TI,TO,i1,i2]->b≠z/\b≠TO/\b≠i1/\b≠i2:=fun b hb=>⟨fun e=>hb (by simp[e]),fun e=>hb (by simp[e]),fun e=>hb (by simp[e]),fun e=>hb (by simp[e])⟩
  have J:Inv X pins σ (upd H s.heap.objs.size (.tup [x,y])) { s with heap:=h'',toks:=s.toks }:=by
   refine I.step (h':=h'') (g':=s.gens) (d':=s.drawn) (t':=s.toks) (ch:=[z,TI,TO,i1,i2]) (fun b hb=>?_) (fun b o _ _ hcn q _=>kk b o (nc b hcn).1 (nc b hcn).2.1 (nc b hcn).2.2.1 (nc b hcn).2.2.2 q)
    (fun b o _ _ hcn q _=>⟨o.slots,kk b o (nc b hcn).1 (nc b hcn).2.1 (nc b hcn).2.2.1 (nc b hcn).2.2.2 q⟩) (fun b o _ q nn=>by rw[zaD (Nat.ne_of_lt (Heap.lt_size q))];exact nn)
    (fun b o hcn q=>⟨o,kk b o (nc b hcn).1 (nc b hcn).2.1 (nc b hcn).2.2.1 (nc b hcn).2.2.2 q⟩) (fun b ys q=>by rw[zaD (zax q hfresh)];exact q) (fun b o u' q=>by rw[zaD (zax q hfresh)];exact q)
    (fun b ps q=>⟨#[],by rw[zaD (zax q hfresh),q];simp⟩) (fun m hm=>?_) ?_ I.bare
   .obtain ⟨f0,f1,f2,f3,f4,f5⟩:=hf b hb;exact ⟨f3,f1,f4,f5⟩
   .obtain ⟨o,es,ep,hoL,r⟩:=hm;exact ⟨o,es,ep,kk _ o (fun e=>(hf z (by simp)).2.1 e.symm) (fun e=>(hf TO (by simp)).2.1 e.symm) (fun e=>(hf i1 (by simp)).2.1 e.symm) (fun e=>(hf i2 (by simp)).2.1 e.symm) hoL,r⟩
   .intro b u' q
    by_cases hb:b=s.heap.objs.size
    .subst hb;rw[zbu] at q;cases q;exact ⟨by show 2<=sizeLine;decide,[u1,u2],.cons ru1 (.cons ru2 .nil),⟨_,hT'',rfl,_,rfl⟩⟩
    .rw[zaD hb] at q;refine (I.hok b u' q).stay (fun c v hcc qq=>?_) (fun c qq=>by rw[zaD (zax qq hfresh)];exact qq) fun c ys qq=>by rw[zaD (zax qq hfresh)];exact qq
     have nn:∀e∈[z,TI,TO,i1,i2],c≠e:=by
      rcases hcc with e | e
      .rw[e];exact nf b u' q
      .exact nf c _ e
     exact kk c v (nn _ (by simp)) (nn _ (by simp)) (nn _ (by simp)) (nn _ (by simp)) qq
  have up:∀b o,b≠z->h'.get? b=some o->h''.get? b=some o:=fun b o n q=>(hs''.2 b n).trans q
  refine ⟨.ref s.heap.objs.size,_,J,rfl,⟨_,x,y,rfl,hfresh,rfl,fun zs hy'=>by rw[hq1] at hy';cases hy';exact hx,fun zs hy'=>by rw[hq2] at hy';cases hy';exact hy⟩,
   ⟨hz'',up _ _ D.TIz (hk _ _ D.TIz D.TITO D.TIi1 D.TIi2 hTI),⟨_,_,up _ _ D.TOz a2⟩,a3.at fun o q=>up _ o D.i1z q,a4.at fun o q=>up _ o D.i2z q⟩,fun b hb=>?_⟩
  rw[zaD]
  .exact (hf b hb).1
  .obtain ⟨o1,ho1,_⟩:=h1;obtain ⟨o2,ho2,_⟩:=h2;simp only[List.mem_cons,List.not_mem_nil,or_false] at hb;rcases hb with rfl | rfl | rfl | rfl | rfl
   .exact Nat.ne_of_lt zlt
   .exact Nat.ne_of_lt (Heap.lt_size hTI)
   .exact Nat.ne_of_lt (Heap.lt_size hTO)
   .exact Nat.ne_of_lt (Heap.lt_size ho1)
   .exact Nat.ne_of_lt (Heap.lt_size ho2)
 done:=by
  intro X hP hw hK hc i pins s σ H E I hf st hg;subst hP hw hK;obtain ⟨hz,hTI,⟨a,c,hTO⟩,h1,h2⟩:=st;obtain ⟨xs,ys,hq1,hq2,hx⟩:=hg;obtain ⟨its1,rv1,p1,hz1⟩:=I.list (SqL.of hq1);obtain ⟨its2,rv2,p2,hz2⟩:=I.list (SqL.of hq2);have hl1:=rv1.length;have hl2:=rv2.length;have DA:=D.apart hq1 hq2 (fun b hb=>(hf b hb).1);refine wpAny_pyNext_zip_end (I.ok.hd hc) DA hz hTI hTO h1 h2 p1.isList p2.isList (by simp;omega) fun h' kk=>⟨rfl, ?_⟩
  have nf:∀b u',H b=some u'->∀c∈[z,TI,TO,i1,i2],b≠c:=fun b u' q c hc e=>by rw[e,(hf c hc).1] at q;cases q
  have nc:∀b,b∉[z,TI,TO,i1,i2]->b≠z/\b≠TO/\b≠i1/\b≠i2:=fun b hb=>⟨fun e=>hb (by simp[e]),fun e=>hb (by simp[e]),fun e=>hb (by simp[e]),fun e=>hb (by simp[e])⟩
  refine I.step (h':=h') (g':=s.gens) (d':=s.drawn) (t':=s.toks) (ch:=[z,TI,TO,i1,i2]) (fun b hb=>?_) (fun b o _ _ hcn q _=>kk b o (nc b hcn).1 (nc b hcn).2.1 (nc b hcn).2.2.1 (nc b hcn).2.2.2 q)
   (fun b o _ _ hcn q _=>⟨o.slots,kk b o (nc b hcn).1 (nc b hcn).2.1 (nc b hcn).2.2.1 (nc b hcn).2.2.2 q⟩) (fun b o _ q nn=>nn)
   (fun b o hcn q=>⟨o,kk b o (nc b hcn).1 (nc b hcn).2.1 (nc b hcn).2.2.1 (nc b hcn).2.2.2 q⟩) (fun b ys q=>q) (fun b o u' q=>q)
   (fun b ps q=>⟨#[],by rw[q];simp⟩) (fun m hm=>?_) (fun b u' q=>?_) I.bare
  .obtain ⟨f0,f1,f2,f3,f4,f5⟩:=hf b hb;exact ⟨f3,f1,f4,f5⟩
  .obtain ⟨o,es,ep,hoL,r⟩:=hm;exact ⟨o,es,ep,kk _ o (fun e=>(hf z (by simp)).2.1 e.symm) (fun e=>(hf TO (by simp)).2.1 e.symm) (fun e=>(hf i1 (by simp)).2.1 e.symm) (fun e=>(hf i2 (by simp)).2.1 e.symm) hoL,r⟩
  .refine (I.hok b u' q).stay (fun c v hcc qq=>?_) (fun c qq=>qq) fun c ys qq=>qq
   have nn:∀e∈[z,TI,TO,i1,i2],c≠e:=by
    rcases hcc with e | e
    .rw[e];exact nf b u' q
    .exact nf c _ e
   exact kk c v (nn _ (by simp)) (nn _ (by simp)) (nn _ (by simp)) (nn _ (by simp)) qq
 self:=fun _ _ _ _ _ st h=>wpAny_pyIter_zip st.1 h
section
variable {X:Cx}
def iZ (ta:TA):TI:=fun σ H R=>ta σ H fun vs H1=>∃l1 l2 xs ys,vs=[.ref l1,.ref l2]/\H1 l1=some 098/\H1 l2=some (.lst ys)/\R (ItZ l1 l2) H1
theorem zqK {a b:Expr} {ta:TA} {p pos:Pos} {elts:List Expr} {k:Nat} {tp:Pos} (hg:Gl X "zip") (hm:X.mg "zip"=none) (ha:PA X [a,b] ta) (hs:starEach [a,b] X.env=(false,eval a X.env)::starEach [b] X.env:=by rfl) (hpl:(backTo pos (starEach [b] X.env)).any (·.1)=false:=by rfl) :
  PI X (.Tuple elts k tp) (.Call (.Name "zip" p) [a,b] [] pos) (iZ ta):=by
 intro pins s σ H R I h;refine Call_ (zgs I hg hm boot_zip (PyProof.Rows.callWith_type1 (thn (ha pos pins s σ H _ I h) fun us s1 ⟨vs,H1,I1,r1,q1⟩=>?_) hs hpl));obtain ⟨l1,l2,xs,ys,e,hq1,hq2,q⟩:=q1;subst e;obtain ⟨u,u',rfl,ru,ru'⟩:=zsX r1;cases ru
 cases ru'
 obtain ⟨its1,rv1,p1,hz1⟩:=I1.list (SqL.of hq1);obtain ⟨its2,rv2,p2,hz2⟩:=I1.list (SqL.of hq2);refine call_zip_2 p1.isList p2.isList fun h' z1 z2 z3 z4 z5 hsz hk=>?_
 have I2:Inv X pins σ H1 { s1 with heap:=h' }:=I1.kept (t':=s1.toks) hk;refine wpAny_pyIter_zip (s:={ s1 with heap:=h' }) z1 ?_;have D:ZA (s1.heap.objs.size+4) (s1.heap.objs.size+2) (s1.heap.objs.size+3) s1.heap.objs.size (s1.heap.objs.size+1):=by constructor<;>(intro e;have e':(_:Nat)=_:=e;omega)
 refine ⟨s1.heap.objs.size+4,[s1.heap.objs.size+4,s1.heap.objs.size+2,s1.heap.objs.size+3,s1.heap.objs.size,s1.heap.objs.size+1],_,ItZ l1 l2,H1,rfl,I2,zrb l1 l2 _ _ _ _ _ D,⟨z1,z2,⟨_,_,z3⟩,z4,z5⟩,fun b hb=>?_,q⟩;have hge:s1.heap.objs.size<=b:=by
  simp only[List.mem_cons,List.not_mem_nil,or_false] at hb;rcases hb with rfl | rfl | rfl | rfl | rfl
  .exact Nat.le_add_right _ _
  .exact Nat.le_add_right _ _
  .exact Nat.le_add_right _ _
  .exact Nat.le_refl _
  .exact Nat.le_add_right _ _
 exact I1.fpOk hge (I1.hok.fresh hge)
end
section
variable {js:List (Option Nat)} {g:TG} {tt:TT} {te:TE} {σ:St} {H:Hp} {Q:VK}
end
section
variable {X:Cx} {pins:List (Addr×Obj)} {σ:St} {H:Hp} {s:Shared}
end
theorem zkU {P:Program} {w:World} {K:PySem.W.Frag} {mg:Str->Option Value} {base:Heap} {x:Str} {st:Stmt} {N ps:List Str} {k:Nat} {sp:Sp} (d:∃f fd,Fun K x x st f fd/\mg x=some (.ref f))
  (hb:∀(kV doc pm:Value) (an:Option Addr) (cdv ct:Value) (us:List Value),us.length=ps.length->bindArgs 021 ⟨us,[]⟩=pure (ps.zip us))
  (S:zam N ps (zae st)) (len:∀vs H Q E,sp vs H Q E->vs.length=ps.length)
  (hbody:∀(f:Addr) (cdv:Value) (A:Around) (outer:List Env) (s:Shared) (H:Hp) (vs:List V) (Q:VK) (E:XK),Room k 0010->sp vs H Q E->
   ∃t,PSs (cxOf (CXF P w base) P w K mg base N x (zae st) f cdv A outer s H E) (zcg st) t/\t { nx:=fun _ H'=>Q .non H',rt:=Q } (start N vs) H):zmE P w K mg base x ps (k+1) sp:=by
 obtain ⟨f,fd,F,hm⟩:=d;refine ⟨f,fd,hm,F.kp,F.binds hb, ?_⟩;obtain ⟨oc,od,kV,doc,pm,an,cdv,ct,osl,rfl,lk,hcd⟩:=F.ex;exact zsB lk hcd S len fun A outer s H vs Q E hr hsp=>hbody f cdv A outer s H vs Q E hr hsp
def xOk (K:Frag) (top x:Str) (others:List Str):Bool:=match nsIn K mainGlobals x with
 | some (some (.ref C))=>
  (findIn K (.ref C) "__getattribute__"==some (some (.builtin "BaseException.__getattribute__")))&&(findIn K (.ref C) "__getattr__"==some none)&&(findIn K (.ref C) "__class__"==some (some (.builtin "object.__class__"))) &&
  (subIn K (.ref C) (.type "BaseException")==some true)&&(subIn K (.ref C) (.type "object")==some true)&&(clsIn K C).isSome&&excIn K C [.type "ValueError",.type "Exception",.type "BaseException",.type "object"] "ValueError.__new__" &&
  (match nsIn K mainGlobals top with | some (some (.ref R))=>exmOne K (.ref C) (.ref R)==some true | _=>false)&&(kitOne K (.ref C) (.type "ValueError")==some true) &&
  others.all (fun y=>match nsIn K mainGlobals y with | some (some (.ref D))=>kitOne K (.ref C) (.ref D)==some (y==x) | _=>false)
 | _=>false
end L2
namespace L2
open PySem PySem.W
end L2
namespace L2
open PySem
section
variable {X:Cx} {st:Stmt} {l:List Stmt} {t u:TS}
end
end L2
namespace L2
open PySem PySem.W PySem.Calls PyProof.Rows
def hdS (w:World) (os:OsState):Shared:=⟨boot_heap w.params,Array.mk [],boot_drawn,boot_toks,os⟩
def hdF {α β:Type} (run:(String->Option PySem.Builtin)->Program->World->Nat->Option Value->Nat->Shared->Thread->Option Shared) (tt:String->Option PySem.Builtin) (im:List Stmt->List Str)
  (sn:Program->List Str->List Str->(Shared->Bool)->Bool->Shared->α) (p q:Program) (loose:List Str) (Xt:Shared->Bool) (Yf:Shared->β) (N:Nat) (w:World) (os:OsState):Option (Bool×α×β):=
 (run tt p w 11 ((boot_heap w.params).nsMap mainGlobals "__annotations__") N (hdS w os) (topStub p)).map fun s=>((staticsOk (im p.main.body) (hdS w os).heap s.heap&&namesBound p s.heap&&gensDone s&&laidKept (hdS w os).heap s.heap),sn q loose (im p.main.body) Xt true s,Yf s)
theorem zpS (P:Params):(((boot_heap P).isNs mainGlobals&&(Array.mk []:Array GenState).size==0,(boot_heap P).objs.size):Bool×Nat)=(true,11):=by kernel_rfl
theorem znw {β:Type} {p q:Program} {loose:List Str} {Xt:Shared->Bool} {Yf:Shared->β} {Ya:World->β} {N:Nat} (hN:Nat.ble 600 N=true)
  (e:opening p=plainProg p.main.scope.names) (f:∀s,fenceModules? p s=some s)
  (h:∀w os,hdF topRun treeTable importedModules openSeen p q loose Xt Yf N w os=some (true,openGood q loose,Ya w)):LeftO p q loose Xt Yf Ya N:=fun w=>by
 obtain ⟨⟨h0,gs,d,k,os⟩,e1,e'⟩:=Option.map_eq_some_iff.mp (boot_open e hN f w);obtain ⟨rfl,rfl,rfl,rfl⟩:h0=boot_heap w.params/\gs=Array.mk []/\d=boot_drawn/\k=boot_toks:=by simpa using e'
 obtain ⟨s,r,x⟩:=Option.map_eq_some_iff.mp (h w os);obtain ⟨x1,x2⟩:=Prod.mk.inj x;have z:=zpS w.params;obtain ⟨z1,z2⟩:=Prod.mk.inj z;have t:topFrom treeTable p w N (hdS w os)=some s:=by
  unfold topFrom;have z1':((hdS w os).heap.isNs mainGlobals&&(hdS w os).gens.size==0)=true:=z1;have z2':(hdS w os).heap.objs.size=11:=z2;have z3':(hdS w os).heap.nsMap mainGlobals "__annotations__"=(boot_heap w.params).nsMap mainGlobals "__annotations__":=rfl;rw[z1',z2',z3',r]
  show (match staticsOk (importedModules p.main.body) (hdS w os).heap s.heap&&namesBound p s.heap&&gensDone s&&laidKept (hdS w os).heap s.heap with | true=>_ | false=>_)=_
  rw[x1]
 unfold openEnds;rw[e1]
 show (topFrom treeTable p w N (hdS w os)).map _=_
 rw[t];exact congrArg some x2
def zfh:Nat->List Obj->Frag
 | _,[]=>[]
 | n,o::r=>match o with
  | ⟨_,_,.freed,_⟩=>zfh (n+1) r
  | o=>(n,o)::zfh (n+1) r
def zms (h:Heap):Frag:=zfh 0 h.objs.toList
theorem zeT:∀(l:List Obj) (n a:Nat) (o:Obj),(zfh n l).lookup a=some o->n<=a/\l[a - n]? = some o/\∀c d s,o≠⟨c,d,.freed,s⟩
 | [],_,_,_,h=>nomatch h
 | x::r,n,a,o,h=>by
  unfold zfh at h;split at h
  .obtain ⟨h1,h2,h3⟩:=zeT r (n+1) a o h;refine ⟨by omega, ?_,h3⟩;rw[show a - n=(a - (n+1))+1 by omega];exact h2
  .rename_i hne;rw[List.lookup_cons] at h;split at h
   .rename_i q;obtain rfl:a=n:=by simpa using q
    cases h;exact ⟨Nat.le_refl _,by simp,fun c d s e=>hne c d s e⟩
   .obtain ⟨h1,h2,h3⟩:=zeT r (n+1) a o h;refine ⟨by omega, ?_,h3⟩;rw[show a - n=(a - (n+1))+1 by omega];exact h2
theorem zlh (h:Heap):(zms h).In h:=fun a o e=>by
 obtain ⟨_,h2,h3⟩:=zeT _ _ _ _ e;have h4:h.objs[a]? = some o:=by simpa using h2
 unfold Heap.get?;rw[h4];obtain ⟨c,d,x,s⟩:=o
 cases x<;>first | rfl | exact absurd rfl (h3 _ _ _)
def zmH (v:Value) (n:Str):Bool:=match v with | .str s _=>Fast.sEq s n | _=>false
theorem zid (v:Value) (n:Str):v.isStr n=zmH v n:=by
 cases v with
 | str s t=>
  show (s==n)=Fast.sEq s n
  cases h:Fast.sEq s n with
  | true=>exact beq_iff_eq.mpr (Fast.sEq_iff.mp h)
  | false=>exact beq_eq_false_iff_ne.mpr fun e=>by rw[Fast.sEq_iff.mpr e] at h;cases h
 | _=>rfl
def nsF (K:Frag) (ns:Addr) (name:Str):Option (Option Value):=match K.lookup ns with
 | some ⟨_,_,.dict es _,_⟩=>(match es.toList.find? (fun e=>zmH e.key name) with
   | some e=>some (some e.val)
   | none=>if es.toList.any (·.refKey) then none else some none)
 | _=>none
theorem zmN (K:Frag) (ns:Addr) (name:Str):nsIn K ns name=nsF K ns name:=by
 unfold nsIn nsF;rw[show (fun e:DictEntry=>zmH e.key name)=fun e=>e.key.isStr name from funext fun e=>(zid _ _).symm];rfl
def zfM (s:Stmt):Str:=match s with
 | .FunctionDef n _ _ _ _ _ _ _ _ _=>n
 | _=>⟨#[]⟩
def zrh (s:Stmt):Pos:=match s with
 | .FunctionDef _ _ _ _ _ _ _ _ _ p=>p
 | _=>⟨0,0,0,0⟩
def zoI (fd:FuncData):FuncData:={ fd with kwdefaults:=.none,doc:=.none,pyModule:=.none,annotations:=none,code:=.none,closureTuple:=.none }
def zrX (eq:Str->Str->Bool) (K:Frag) (cd:Value) (q:Str):Bool:=match cd with
 | .ref c=>(match K.lookup c with
   | some ⟨_,_,.fields vs,_⟩=>(match vs.toList with | _::.str n _::_=>eq n q | _=>false)
   | _=>false)
 | _=>false
theorem zpC:Fast.sEq=fun a b=>a==b:=funext fun a=>funext fun b=>(zid (.str a 0) b).symm
theorem zno (K:Frag) (cd:Value) (q:Str):zrX Fast.sEq K cd q=codeIn K cd q:=by rw[zpC];rfl
def zoZ (K:Frag) (n:Str):Option FuncData:=match nsF K mainGlobals n with
 | some (some (.ref f))=>(match K.lookup f with
  | some ⟨_,_,.func fd,_⟩=>(match zrX Fast.sEq K fd.code n with | true=>some (zoI fd) | false=>none)
  | _=>none)
 | _=>none
def zpZ (st:Stmt):FuncData:=fnOf (zfM st) (zfM st) (zdF st) (zcg st) (zae st) .none .none .none .none none .none .none
theorem zaE {K:Frag} {h:Heap} {mg:Str->Option Value} {n:Str} {st:Stmt} (X:K.In h) (G:h.Ns mainGlobals mg) (hn:zfM st=n) (e:zoZ K (zfM st)=some (zpZ st)):∃f fd,Fun K n n st f fd/\mg n=some (.ref f):=by
 subst hn;unfold zoZ at e;split at e
 .rename_i f hf;split at e
  .rename_i oc od fd osl ho;split at e
   .rename_i hc;have hc':codeIn K fd.code (zfM st)=true:=(zno _ _ _).symm.trans hc;refine ⟨f,fd,⟨?_, ?_⟩,mg_of X G ((zmN _ _ _).trans hf)⟩
    .have e':=Option.some.inj e;obtain ⟨nm,qn,pa,bo,sc,gl,cl,de,kd,dc,pm,an,cd,ct,bi⟩:=fd;unfold zoI zpZ fnOf at e';simp only[FuncData.mk.injEq] at e';obtain ⟨rfl,rfl,rfl,rfl,rfl,rfl,rfl,rfl,-,-,-,-,-,-,rfl⟩:=e';exact ⟨oc,od,kd,dc,pm,an,cd,ct,osl,rfl,ho,hc'⟩
    .simp only[keepIn,ho]
   .cases e
  .cases e
 .cases e
def zo7 (K:Frag) (n:Str):Bool:=match nsF K mainGlobals n with | some none=>true | _=>false
def zl2 (K:Frag) (n:Str):Option Int:=match nsF K mainGlobals n with | some (some (.int i _))=>some i | _=>none
theorem zeu {K:Frag} {h:Heap} {mg:Str->Option Value} {n:Str} (X:K.In h) (G:h.Ns mainGlobals mg) (e:zo7 K n=true):mg n=none:=by
 unfold zo7 at e;split at e
 .rename_i q;exact mg_none_of X G ((zmN _ _ _).trans q)
 .cases e
theorem zfq {K:Frag} {h:Heap} {mg:Str->Option Value} {n:Str} {i:Int} (X:K.In h) (G:h.Ns mainGlobals mg) (e:zl2 K n=some i):∃t,mg n=some (.int i t):=by
 unfold zl2 at e;split at e
 .rename_i j t q;cases e;exact ⟨t,mg_of X G ((zmN _ _ _).trans q)⟩
 .cases e
abbrev ObsT:=List (Option FuncData)×List Bool×List 08×List Bool
def obs (fs:List Stmt) (bs:List Str) (cs:List Str) (xs:List (Str×Str×List Str)) (K:Frag):ObsT:=
 (fs.map fun s=>zoZ K (zfM s),bs.map (zo7 K),cs.map (zl2 K),xs.map fun x=>xOk K x.1 x.2.1 x.2.2)
def due (fs:List Stmt) (bs:List Str) (is:List Int) (xs:List (Str×Str×List Str)):ObsT:=(fs.map fun s=>some (zpZ s),bs.map fun _=>true,is.map some,xs.map fun _=>true)
theorem zau {A B:Type} {f g:A->B} {l:List A} (e:l.map f=l.map g) (i:Nat) {a:A} (h:l[i]? = some a):f a=g a:=by
 have:=congrArg (fun z=>z[i]?) e
 simpa [h] using this
theorem zdf {f:Str->Option Int} {l:List Str} {is:List Int} (e:l.map f=is.map some) (i:Nat) {a:Str} {x:Int} (h:l[i]? = some a) (h2:is[i]? = some x):f a=some x:=by
 have:=congrArg (fun z=>z[i]?) e
 simpa [h,h2] using this
def zgh (O:Frag->ObsT) (D:ObsT):Hook:=
 ⟨ObsT,fun s=>O (zms s.heap),fun _=>D,fun _ h=>∃K:Frag,K.In h/\O K=D,fun _ s e=>⟨_,zlh s.heap,e⟩,fun _ _ _ x k=>let ⟨K,a,b⟩:=x;⟨K,a.keeps k,b⟩⟩
theorem zn3 {l:PySem.W.OpenLaw} {n k:Nat} {q:Program} {loose:List Str} {XP:(Str->Option Value)->Heap->Prop} {d:DefRec} {O:Frag->ObsT} {D:ObsT} {CX:CXT} {sp:PySem.W.Frag->Sp} {x:Str}
  (hn:l.most=some n) (hn2:n<=sizeLine) (hdf:d.params.defaults=[]) (hr:Room k callerA)
  (F:∀(w:World) (K:Frag) (mg:Str->Option Value) (fa:Addr) (h:Heap),K.In h->h.Ns mainGlobals mg->O K=D->mg d.name=some (.ref fa)->
   ∃fd:FuncData,(∀(s:Shared) (u:Value),BindsTo s fd ⟨[u],[]⟩ [(x,u)])/\
    ∀base:Heap,K.In base->base.Ns mainGlobals mg->FnOk l.prog w K mg base CX k fa fd [x] (sp K))
  (hsp:∀(K:PySem.W.Frag) (H:Hp) (a:Addr) (ns:List Int),ns.length<=n->Only H->SqL K H a 014->sp K [.ref a] H (fun v _=>v=.bl true) fun _ _ _=>False)
  (hCX:∀(H:Hp) (s:Shared) (e:Value) (s':Shared),CX [] H s (fun _ _ _=>False) e s'->False) :
  PySem.W.WalkO q loose XP (zgh O D).says l.row.toRowW d [] (fun f vs=>PySem.call f vs):=by
 refine Att.zjk hn hdf fun w s₀ s₁ mg mb fa o pm cd doc a vs ns G Y ho hd hcd hmg hobj hints hlen hg=>?_
 obtain ⟨K,KX,e⟩:=Y;obtain ⟨fd,hb,hF⟩:=F w K mg fa _ KX G.T.g e hmg;exact znh KX G.T.g G.T.b G.T.builtins G.T.nolimit hg hobj hints (Nat.le_trans hlen hn2) hr hF hb (fun H hO hS=>hsp K H a ns hlen hO hS) fun H e s'=>hCX H s₁ e s'
end L2
namespace L2
open PySem PySem.Spec PySem.Calls PySem.W PyProof.Rows
section
variable {X:Cx}
end
section
variable {K:Frag} {mg:Str->Option Value} {top:Str} {xs ys:List Str}
end
end L2
namespace L2
open PySem PySem.W PySem.Calls PyProof.Rows
def topT (tb:String->Option Builtin) (p:Program) (w:World) (ann:Option Value):Nat->SharedT->Thread->Option SharedT
 | 0,_,_=>none
 | n+1,s,t=>match through t with
  | true=>some s
  | false=>match stepOk 11 ann t with
   | false=>none
   | true=>match stepT (denote tb) p w s t with
    | some (s',t')=>topT tb p w ann n s' t'
    | none=>none
theorem zk9 {tb:String->Option Builtin} {p:Program} {w:World} {ann:Option Value}:∀{n:Nat} {s s':SharedT} {t:Thread},topT tb p w ann n s t=some s'->topRun tb p w 11 ann n s.abs t=some s'.abs
 | 0,_,_,_,h=>by cases h
 | n+1,s,s',t,h=>by
  unfold topT at h;unfold topRun
  cases he:through t with
  | true=>rw[he] at h;cases h;rfl
  | false=>
   rw[he] at h
   cases hk:stepOk 11 ann t with
   | false=>rw[hk] at h;cases h
   | true=>
    rw[hk] at h
    cases hs:stepT (denote tb) p w s t with
    | none=>rw[hs] at h;cases h
    | some r=>obtain ⟨s₂,t₂⟩:=r;rw[hs] at h;rw[stepT_spec hs];exact zk9 h
def zoE:List Obj->Nat->BT->BT
 | [],_,t=>t
 | o::r,n,t=>zoE r (n+1) (t.ins n o)
def hdST (w:World) (os:OsState):SharedT:=⟨zoE (boot_heap w.params).objs.toList 0 .nil,11,(boot_heap w.params).life,Array.mk [],boot_drawn,boot_toks,os⟩
theorem zqM (w:World) (os:OsState):(hdST w os).abs=hdS w os:=by
 show Shared.mk (absHeap _ 11 _) _ _ _ _=Shared.mk _ _ _ _ _
 congr 1
def hdT {α β:Type} (run:(String->Option PySem.Builtin)->Program->World->Option Value->Nat->SharedT->Thread->Option SharedT) (tt:String->Option PySem.Builtin) (im:List Stmt->List Str)
  (sn:Program->List Str->List Str->(Shared->Bool)->Bool->Shared->α) (p q:Program) (loose:List Str) (Xt:Shared->Bool) (Yf:Shared->β) (N:Nat) (w:World) (os:OsState):Option (Bool×α×β):=
 (run tt p w ((boot_heap w.params).nsMap mainGlobals "__annotations__") N (hdST w os) (topStub p)).map fun s=>((staticsOk (im p.main.body) (hdS w os).heap s.abs.heap&&namesBound p s.abs.heap&&gensDone s.abs&&laidKept (hdS w os).heap s.abs.heap),sn q loose (im p.main.body) Xt true s.abs,Yf s.abs)
theorem zst {α β:Type} {tt:String->Option PySem.Builtin} {im:List Stmt->List Str} {sn:Program->List Str->List Str->(Shared->Bool)->Bool->Shared->α} {p q:Program} {loose:List Str} {Xt:Shared->Bool} {Yf:Shared->β} {N:Nat} {w:World} {os:OsState} {x:Bool×α×β}
  (h:hdT topT tt im sn p q loose Xt Yf N w os=some x):hdF topRun tt im sn p q loose Xt Yf N w os=some x:=by
 obtain ⟨s,r,e⟩:=Option.map_eq_some_iff.mp h;have r':=zk9 r;rw[zqM] at r';unfold hdF;rw[r',<-e];rfl
end L2
lay_quick L2.topT
namespace My
open PySem L2
lay_quick PySem.Challenge.pw_tautroads_k45_whole_by_without_and_count
def QQ (p:Program):Program:=PySem.W.view p [1,2,3,4,5,6,7,9,10,11,12,13,14,15,16,17,18,19,20,21,23,24,25,26,28,29,30,31,32,34,35,36,37,39,40,41,42,43,44,45,47,48,49,50,51,52,53,54,55,56,57,59,60,61,62,63,64,65,66,67,68,69,70,71,72,73]
def lo:List Str:=["MOST_LENGTH","FAR"]
def lv:List (Str×PySem.W.WData):=[("MOST_LENGTH",PySem.W.WData.int 1000000000),("FAR",PySem.W.WData.int 40000000000)]
def Xt (p:Program) (s:Shared):Bool:=PySem.W.xlAt (QQ p) lv s&&PySem.W.recOk [] s
def stm (p:Program) (i:Nat):Stmt:=p.main.body.getD i (.Pass ⟨0,0,0,0⟩)
def fs (p:Program):List Stmt:=[stm p 59,stm p 61,stm p 60,stm p 62,stm p 63,stm p 64,stm p 12,stm p 13,stm p 14,stm p 15,stm p 17,stm p 23,stm p 24,stm p 26,stm p 30,stm p 29,stm p 35,stm p 37,stm p 19,stm p 18,stm p 21,stm p 66,stm p 36,stm p 34,stm p 43,stm p 40,stm p 44,stm p 25,stm p 31,stm p 32,stm p 16,stm p 39,stm p 41,stm p 42,stm p 69,stm p 67,stm p 45,stm p 20,stm p 65,stm p 68,stm p 49,stm p 50,stm p 51,stm p 70,stm p 71,stm p 52,stm p 53,stm p 55,stm p 56,stm p 57,stm p 54,stm p 72,stm p 73]
def bs:List Str:=["enumerate","int","len","list","max","min","range","reversed","sorted","sum","zip"]
def cs:List Str:=["FAR","MOST_LENGTH","MOST_PLACES","MOST_ROADS","MOST_STEPS","MOST_STOPS"]
def is:List Int:=[40000000000,1000000000,20,60,60,7]
def xs:List (Str×Str×List Str):=[]
abbrev oo (p:Program):PySem.W.Frag->L2.ObsT:=L2.obs (fs p) bs cs xs
abbrev dd (p:Program):L2.ObsT:=L2.due (fs p) bs is xs
def zrP {α:Type} (gd:Program->List Str->α) (run:(String->Option PySem.Builtin)->Program->World->Option Value->Nat->PySem.W.SharedT->Thread->Option PySem.W.SharedT) (tt:String->Option PySem.Builtin) (im:List Stmt->List Str) (sn:Program->List Str->List Str->(Shared->Bool)->Bool->Shared->α) (p:Program):Prop:=
 ∀(w:World) (os:OsState),L2.hdT run tt im sn p (QQ p) lo (Xt p) (fun s=>oo p (L2.zms s.heap)) 6608 w os=some (true,gd (QQ p) lo,dd p)
theorem zsm:zrP PySem.W.openGood PySem.W.Fast.tw12425933026755589441 PySem.W.Fast.tw14364793385576792824 PySem.W.Fast.tw5923862056798008813 PySem.W.Fast.tw4187177175401517315 PySem.W.Fast.tw12148066072661790487:=fun w os=>by
 unfold L2.hdT
 kernel_rfl
theorem seen:zrP PySem.W.openGood L2.topT treeTable importedModules PySem.W.openSeen PySem.Challenge.pw_tautroads_k45_whole_by_without_and_count:=by
 rw[PySem.W.Fast.te12425933026755589441,PySem.W.Fast.te14364793385576792824,PySem.W.Fast.te5923862056798008813,PySem.W.Fast.te4187177175401517315,PySem.W.Fast.te12148066072661790487];exact zsm
theorem left:PySem.W.LeftO PySem.Challenge.pw_tautroads_k45_whole_by_without_and_count (QQ PySem.Challenge.pw_tautroads_k45_whole_by_without_and_count) lo (Xt PySem.Challenge.pw_tautroads_k45_whole_by_without_and_count) (L2.zgh (oo PySem.Challenge.pw_tautroads_k45_whole_by_without_and_count) (dd PySem.Challenge.pw_tautroads_k45_whole_by_without_and_count)).obs (L2.zgh (oo PySem.Challenge.pw_tautroads_k45_whole_by_without_and_count) (dd PySem.Challenge.pw_tautroads_k45_whole_by_without_and_count)).val 6608:=
 L2.znw (by decide) (by kernel_rfl) (fun s=>by kernel_rfl) fun w os=>L2.zst (seen w os)
end My
namespace L2
open PySem
set_option genInjectivity true
inductive O where
 | z
 | d (x:PyData)
 | l (xs:List O)
 | t (xs:List O)
 | x (c:Str)
 | g (o:HO)
 | q (xs:List V)
 deriving Inhabited
mutual
def fz:O->Option PyData
 | .d x=>some x
 | .l xs=>(fzs xs).map PyData.list
 | .t xs=>(fzs xs).map PyData.tuple
 | .z=>none
 | .x _=>none
 | .g _=>none
 | .q _=>none
def fzs:List O->Option (List PyData)
 | []=>some []
 | o::os=>match fz o,fzs os with
  | some a,some b=>some (a::b)
  | _,_=>none
end
theorem zrQ:∀xs:List PyData,fzs (xs.map O.d)=some xs
 | []=>by simp[fzs]
 | x::xs=>by simp[fzs,fz,zrQ xs]
def sub:List Nat->O->Option O
 | [],o=>some o
 | k::p,.l xs=>match xs[k]? with | some o=>sub p o | none=>none
 | k::p,.t xs=>match xs[k]? with | some o=>sub p o | none=>none
 | _::_,_=>none
def put:List Nat->O->O->O
 | [],n,_=>n
 | k::p,n,.l xs=>.l (match xs[k]? with | some o=>xs.set k (put p n o) | none=>xs)
 | k::p,n,.t xs=>.t (match xs[k]? with | some o=>xs.set k (put p n o) | none=>xs)
 | _::_,_,o=>o
abbrev Rho:=List O
inductive Rv where
 | own (o:O)
 | at (i:Nat) (p:List Nat)
 deriving Inhabited
def vw (ρ:Rho):Rv->Option O
 | .own o=>some o
 | .at i p=>match ρ[i]? with | some o=>sub p o | none=>none
def vn (ρ:Rho) (r:Rv):Option O:=match vw ρ r with | some .z=>none | o=>o
def pok (ρ:Rho) (q:Bool):Rv->Bool
 | .own _=>true
 | .at _ []=>true
 | .at i (k::p)=>q&&(vw ρ (.at i (k::p))).isSome
inductive Re (α:Type) where
 | bad
 | ok (a:α) (ρ:Rho) (q:Bool)
 | ex (c:Str) (ρ:Rho)
def Re.bind {α β:Type}:Re α->(α->Rho->Bool->Re β)->Re β
 | .bad,_=>.bad
 | .ok a ρ q,f=>f a ρ q
 | .ex c ρ,_=>.ex c ρ
@[simp] theorem Re.bind_bad {α β:Type} (f:α->Rho->Bool->Re β):Re.bind .bad f=.bad:=rfl
@[simp] theorem Re.bind_ok {α β:Type} (a:α) (ρ:Rho) (q:Bool) (f:α->Rho->Bool->Re β):Re.bind (.ok a ρ q) f=f a ρ q:=rfl
@[simp] theorem Re.bind_ex {α β:Type} (c:Str) (ρ:Rho) (f:α->Rho->Bool->Re β):Re.bind (.ex c ρ) f=.ex c ρ:=rfl
abbrev EF:=Rho->Re Rv
abbrev TF:=Rho->Re Bool
abbrev AF:=Rho->Re (List Rv)
inductive Rt where
 | bad
 | nx (ρ:Rho)
 | br (ρ:Rho)
 | ct (ρ:Rho)
 | rt (o:O) (ρ:Rho)
 | ex (c:Str) (ρ:Rho)
abbrev SF:=Rho->Rt
inductive Rc where
 | bad
 | ok (o:O) (outs:List O)
 | ex (c:Str) (outs:List O)
abbrev FC:=List O->Rc
def coe (ρ:Rho):Rv->Option (O×Rho)
 | .own o=>some (o,ρ)
 | .at i p=>match ρ[i]? with
  | none=>none
  | some oi=>match sub p oi with
   | some (.d x)=>some (.d x,ρ)
   | some (.x c)=>some (.x c,ρ)
   | some (.g o)=>some (.g o,ρ)
   | some (.q o)=>some (.q o,ρ)
   | some o=>match fz oi,fz o with
    | some xi,some x=>some (.d x,ρ.set i (.d xi))
    | _,_=>none
   | none=>none
def mov (ρ:Rho):Rv->Option (O×Rho)
 | .own o=>some (o,ρ)
 | .at i []=>match ρ[i]? with
  | some .z=>none
  | some o=>some (o,ρ.set i .z)
  | none=>none
 | .at i (k::p)=>coe ρ (.at i (k::p))
def QOk (K:PySem.W.Frag) (H:Hp) (W:Addr->Prop) (a:Addr) (xs:List V):Prop:=(Rd H a 098/\¬W a)\/
  ∃(o:Obj) (its:Array Value) (n:Nat),K.lookup a=some o/\o.cls=.type "list"/\o.dict=none/\o.data=.seq its n/\its.size<=sizeLine/\Vals xs its.toList
theorem QOk.sq {K:PySem.W.Frag} {H:Hp} {W:Addr->Prop} {a:Addr} {xs:List V} (h:QOk K H W a xs):SqL K H a xs:=h.imp (fun z=>z.1) id
section
variable (mg:Str->Option Value) (K:PySem.W.Frag)
mutual
inductive Ow (H:Hp) (W:Addr->Prop):V->O->List Addr->Prop where
 | z (v:V):Ow H W v .z []
 | d {v:V} {x:PyData}:Dn H W v x->Ow H W v (.d x) []
 | l {a:Addr} {vs:List V} {os:List O} {As:List Addr}:H a=some (.lst vs)->Ows H W vs os As->Ow H W (.ref a) (.l os) (a::As)
 | t {a:Addr} {vs:List V} {os:List O} {As:List Addr}:¬W a->H a=some (.tup vs)->Ows H W vs os As->Ow H W (.ref a) (.t os) As
 | x {a C:Addr} {c:Str}:¬W a->H a=some (.ext (XAt a C))->XCls K C->mg c=some (.ref C)->Ow H W (.ref a) (.x c) []
 | g {a:Addr} {o:HO}:¬W a->H a=some o->Ow H W (.ref a) (.g o) []
 | q {a:Addr} {xs:List V}:QOk K H W a xs->Ow H W (.ref a) (.q xs) []
inductive Ows (H:Hp) (W:Addr->Prop):List V->List O->List Addr->Prop where
 | nil:Ows H W [] [] []
 | cons {v:V} {o:O} {vs:List V} {os:List O} {A B:List Addr}:Ow H W v o A->Ows H W vs os B->Ows H W (v::vs) (o::os) (A++B)
end
end
section
variable {mg:Str->Option Value} {K:PySem.W.Frag} {H H':Hp} {W W':Addr->Prop}
theorem Ows.length {vs:List V} {os:List O} {As:List Addr} (h:Ows mg K H W vs os As):vs.length=os.length:=
 Ows.rec (motive_1:=fun _ _ _ _=>True) (motive_2:=fun vs os _ _=>vs.length=os.length) (fun _=>trivial) (fun _=>trivial) (fun _ _ _=>trivial) (fun _ _ _ _=>trivial) (fun _ _ _ _=>trivial) (fun _ _=>trivial) (fun _=>trivial) rfl (fun _ _ _ ih=>by rw[List.length_cons,List.length_cons,ih]) h
def DMv (H:Hp) (W:Addr->Prop) (H':Hp) (W':Addr->Prop):Prop:=∀a o,H a=some o->¬W a->H' a=some o/\¬W' a
theorem Dn.on (m:DMv H W H' W') {v:V} {d:PyData} (h:Dn H W v d):Dn H' W' v d:=h.mapX m
theorem Dns.on (m:DMv H W H' W') {v:List V} {d:List PyData} (h:Dns H W v d):Dns H' W' v d:=h.mapX m
theorem DMv.q (m:DMv H W H' W') {a:Addr} {xs:List V} (h:QOk K H W a xs):QOk K H' W' a xs:=by
 rcases h with ⟨h | ⟨o,h⟩,n⟩ | h
 .exact .inl ⟨.inl (m _ _ h n).1,(m _ _ h n).2⟩
 .exact .inl ⟨.inr ⟨o,(m _ _ h n).1⟩,(m _ _ h n).2⟩
 .exact .inr h
theorem Ow.on (m:DMv H W H' W') {v:V} {o:O} {As:List Addr} (h:Ow mg K H W v o As):(∀x∈As,H' x=H x)->Ow mg K H' W' v o As:=
 Ow.rec (motive_1:=fun v o As _=>(∀x∈As,H' x=H x)->Ow mg K H' W' v o As) (motive_2:=fun v o As _=>(∀x∈As,H' x=H x)->Ows mg K H' W' v o As)
  (fun v _=>.z v) (fun h _=>.d (h.on m)) (fun h _ ih e=>.l (by rw[e _ List.mem_cons_self];exact h) (ih fun x hx=>e x (List.mem_cons_of_mem _ hx))) (fun n h _ ih e=>.t (m _ _ h n).2 (m _ _ h n).1 (ih e)) (fun n h c g _=>.x (m _ _ h n).2 (m _ _ h n).1 c g)
  (fun n h _=>.g (m _ _ h n).2 (m _ _ h n).1) (fun h _=>.q (m.q h)) (fun _=>.nil) (fun _ _ i1 i2 e=>.cons (i1 fun x hx=>e x 074) (i2 fun x hx=>e x 0011)) h
theorem Ows.on (m:DMv H W H' W') {v:List V} {o:List O} {As:List Addr} (h:Ows mg K H W v o As):(∀x∈As,H' x=H x)->Ows mg K H' W' v o As:=
 Ows.rec (motive_1:=fun v o As _=>(∀x∈As,H' x=H x)->Ow mg K H' W' v o As) (motive_2:=fun v o As _=>(∀x∈As,H' x=H x)->Ows mg K H' W' v o As)
  (fun v _=>.z v) (fun h _=>.d (h.on m)) (fun h _ ih e=>.l (by rw[e _ List.mem_cons_self];exact h) (ih fun x hx=>e x (List.mem_cons_of_mem _ hx))) (fun n h _ ih e=>.t (m _ _ h n).2 (m _ _ h n).1 (ih e)) (fun n h c g _=>.x (m _ _ h n).2 (m _ _ h n).1 c g)
  (fun n h _=>.g (m _ _ h n).2 (m _ _ h n).1) (fun h _=>.q (m.q h)) (fun _=>.nil) (fun _ _ i1 i2 e=>.cons (i1 fun x hx=>e x 074) (i2 fun x hx=>e x 0011)) h
theorem dn_l {a:Addr} {vs:List V} {os:List O} {As:List Addr} (h:H a=some (.lst vs)) (_:Ows mg K H W vs os As) (ih:∀x,fzs os=some x->(∀x∈As,¬W' x)->Dns H W' vs x) (x:PyData) (e:fz (.l os)=some x) (n:∀x∈a::As,¬W' x):Dn H W' (.ref a) x:=by
 rw[fz] at e
 cases q:fzs os with
 | none=>rw[q] at e;cases e
 | some xs=>
  rw[q] at e;cases e;exact .lst (n _ List.mem_cons_self) h (ih xs q fun x hx=>n x (List.mem_cons_of_mem _ hx))
theorem dn_t (s:∀a,W' a->W a) {a:Addr} {vs:List V} {os:List O} {As:List Addr} (k:¬W a) (h:H a=some (.tup vs)) (_:Ows mg K H W vs os As) (ih:∀x,fzs os=some x->(∀x∈As,¬W' x)->Dns H W' vs x) (x:PyData) (e:fz (.t os)=some x) (n:∀x∈As,¬W' x):Dn H W' (.ref a) x:=by
 rw[fz] at e
 cases q:fzs os with
 | none=>rw[q] at e;cases e
 | some xs=>
  rw[q] at e;cases e;exact .tup (fun z=>k (s _ z)) h (ih xs q n)
theorem dn_c {v:V} {o:O} {vs:List V} {os:List O} {A B:List Addr} (_:Ow mg K H W v o A) (_:Ows mg K H W vs os B) (i1:∀x,fz o=some x->(∀x∈A,¬W' x)->Dn H W' v x) (i2:∀x,fzs os=some x->(∀x∈B,¬W' x)->Dns H W' vs x) (x:List PyData) (e:fzs (o::os)=some x) (n:∀x∈A++B,¬W' x):Dns H W' (v::vs) x:=by
 rw[fzs] at e
 cases q:fz o with
 | none=>rw[q] at e;cases e
 | some y=>
  cases r:fzs os with
  | none=>rw[q,r] at e;cases e
  | some ys=>
   rw[q,r] at e;cases e;exact .cons (i1 y q fun x hx=>n x 074) (i2 ys r fun x hx=>n x 0011)
theorem Ow.dn (s:∀a,W' a->W a) {v:V} {o:O} {As:List Addr} {x:PyData} (h:Ow mg K H W v o As) (e:fz o=some x) (n:∀x∈As,¬W' x):Dn H W' v x:=
 Ow.rec (motive_1:=fun v o As _=>∀x,fz o=some x->(∀x∈As,¬W' x)->Dn H W' v x) (motive_2:=fun v o As _=>∀x,fzs o=some x->(∀x∈As,¬W' x)->Dns H W' v x)
  (fun v x e _=>by rw[fz] at e;cases e) (fun h x e _=>by cases e;exact h.weak s) dn_l (dn_t s) (fun _ _ _ _ x e _=>by rw[fz] at e;cases e) (fun _ _ x e _=>by rw[fz] at e;cases e) (fun _ x e _=>by rw[fz] at e;cases e)
  (fun x e _=>by rw[fzs] at e;cases e;exact .nil) dn_c h _ e n
theorem Ow.plain {v:V} {o:O} {As:List Addr} {x:PyData} (h:Ow mg K H W v o As) (e:fz o=some x):Dn H (fun _=>False) v x:=h.dn (fun _ z=>z.elim) e fun _ _ z=>z
theorem Ows.ofD:∀{vs:List V} {ds:List PyData},Dns H W vs ds->Ows mg K H W vs (ds.map O.d) []
 | _,_,.nil=>.nil
 | _,_,.cons a b=>.cons (A:=[]) (.d a) (Ows.ofD b)
theorem Ows.toD:∀{vs:List V} {ds:List PyData} {As:List Addr},Ows mg K H W vs (ds.map O.d) As->Dns H W vs ds/\As=[]
 | _,[],_,h=>by cases h;exact ⟨.nil,rfl⟩
 | _,d::ds,_,h=>by
  cases h with
  | cons a b=>
   cases a with
   | d h=>obtain ⟨q,rfl⟩:=Ows.toD b;exact ⟨.cons h q,rfl⟩
theorem Ows.get:∀{vs:List V} {os:List O} {As:List Addr} {i:Nat} {o:O},Ows mg K H W vs os As->os[i]? = some o->∃v A,vs[i]? = some v/\Ow mg K H W v o A/\A.Sublist As
 | _,_,_,_,_,.nil,e=>by simp at e
 | _,_,_,0,_,.cons a b,e=>by simp at e;subst e;exact ⟨_,_,rfl,a,List.sublist_append_left _ _⟩
 | _,_,_,i+1,o,.cons a b,e=>by
  obtain ⟨v,A,h1,h2,h3⟩:=Ows.get (i:=i) (o:=o) b (by simpa using e);exact ⟨v,A,by simpa using h1,h2,h3.trans (List.sublist_append_right _ _)⟩
theorem Ows.app {vs ws:List V} {os us:List O} {A B:List Addr} (h:Ows mg K H W vs os A) (s:Ows mg K H W ws us B):Ows mg K H W (vs++ws) (os++us) (A++B):=
 Ows.rec (motive_1:=fun _ _ _ _=>True) (motive_2:=fun vs os A _=>Ows mg K H W (vs++ws) (os++us) (A++B)) (fun _=>trivial) (fun _=>trivial) (fun _ _ _=>trivial) (fun _ _ _ _=>trivial) (fun _ _ _ _=>trivial) (fun _ _=>trivial) (fun _=>trivial) s (fun a _ _ ih=>by rw[List.append_assoc];exact .cons a ih) h
def els:O->Option (Bool×List O)
 | .d (.list ds)=>some (true,ds.map O.d)
 | .d (.tuple ds)=>some (false,ds.map O.d)
 | .l os=>some (true,os)
 | .t os=>some (false,os)
 | _=>none
theorem Ow.els {v:V} {o:O} {As:List Addr} {k:Bool} {os:List O} (h:Ow mg K H W v o As) (e:els o=some (k,os)) :
  ∃a vs A,v=.ref a/\H a=some (if k then .lst vs else .tup vs)/\Ows mg K H W vs os A/\A.Sublist As:=by
 cases h with
 | z=>cases e
 | d h=>
  cases h with
  | lst n q t=>cases e;exact ⟨_,_,_,rfl,q,.ofD t,.refl _⟩
  | tup n q t=>cases e;exact ⟨_,_,_,rfl,q,.ofD t,.refl _⟩
  | _=>cases e
 | l q t=>cases e;exact ⟨_,_,_,rfl,q,t,List.sublist_cons_self _ _⟩
 | t n q t=>cases e;exact ⟨_,_,_,rfl,q,t,.refl _⟩
 | x=>cases e
 | g=>cases e
 | q=>cases e
def lds:List O->Option (List PyData)
 | []=>some []
 | .d x::os=>(lds os).map (x::·)
 | _=>none
theorem zd9:∀xs:List PyData,lds (xs.map O.d)=some xs
 | []=>rfl
 | x::xs=>by simp[lds,zd9 xs]
theorem zjN:∀{os:List O} {ds:List PyData},lds os=some ds->os=ds.map O.d
 | [],ds,e=>by cases e;rfl
 | .d x::os,ds,e=>by
  rw[lds] at e
  cases q:lds os with
  | none=>rw[q] at e;cases e
  | some xs=>rw[q] at e;cases e;rw[zjN q];rfl
 | .z::_,_,e=>by cases e
 | .l _::_,_,e=>by cases e
 | .t _::_,_,e=>by cases e
 | .x _::_,_,e=>by cases e
 | .g _::_,_,e=>by cases e
 | .q _::_,_,e=>by cases e
end
section
variable {mg:Str->Option Value} {K:PySem.W.Frag} {H H':Hp} {W W':Addr->Prop}
def VAt (H:Hp):List Nat->V->V->Prop
 | [],v,u=>v=u
 | k::p,v,u=>∃a vs w,v=.ref a/\(H a=some (.lst vs)\/H a=some (.tup vs))/\vs[k]? = some w/\VAt H p w u
theorem Ow.sub {p:List Nat}:∀{v:V} {o n:O} {As:List Addr},Ow mg K H W v o As->sub p o=some n->∃u A,VAt H p v u/\Ow mg K H W u n A/\A.Sublist As:=by
 induction p with
 | nil=>intro v o n As h e;cases e;exact ⟨_,_,rfl,h,.refl _⟩
 | cons k p ih=>
  intro v o n As h e
  cases h with
  | @l a vs os As qq tt=>
   rw[L2.sub] at e
   cases r:os[k]? with
   | none=>rw[r] at e;cases e
   | some o=>
    rw[r] at e;obtain ⟨w,A,h1,h2,h3⟩:=tt.get r;obtain ⟨u,B,g1,g2,g3⟩:=ih h2 e;exact ⟨u,B,⟨_,_,_,rfl,.inl qq,h1,g1⟩,g2,g3.trans (h3.trans (List.sublist_cons_self _ _))⟩
  | @t a vs os As nw qq tt=>
   rw[L2.sub] at e
   cases r:os[k]? with
   | none=>rw[r] at e;cases e
   | some o=>
    rw[r] at e;obtain ⟨w,A,h1,h2,h3⟩:=tt.get r;obtain ⟨u,B,g1,g2,g3⟩:=ih h2 e;exact ⟨u,B,⟨_,_,_,rfl,.inr qq,h1,g1⟩,g2,g3.trans h3⟩
  | _=>cases e
theorem VAt.inj {p:List Nat}:∀{v u w:V},VAt H p v u->VAt H p v w->u=w:=by
 induction p with
 | nil=>intro v u w h k;exact h.symm.trans k
 | cons k p ih=>
  intro v u w h1 h2;obtain ⟨a,vs,x,e,h,q,r⟩:=h1;obtain ⟨b,ws,y,e',h',q',r'⟩:=h2;rw[e] at e'
  cases e'
  have:vs=ws:=by
   rcases h with h | h<;>rcases h' with h' | h'<;>rw[h] at h'<;>cases h'<;>rfl
  subst this;rw[q] at q'
  cases q'
  exact ih r r'
theorem VAt.app:∀{p q:List Nat} {v u w:V},VAt H p v u->VAt H q u w->VAt H (p++q) v w
 | [],_,_,_,_,h,k=>by rw[show _=_ from h];exact k
 | _::p,q,_,_,_,⟨a,vs,x,e,h,g,r⟩,k=>⟨a,vs,x,e,h,g,VAt.app r k⟩
theorem Ows.swap:∀{vs:List V} {os:List O} {As:List Addr} {k:Nat} {w:V} {o n:O} {A:List Addr},Ows mg K H W vs os As->As.Nodup->os[k]? = some o->vs[k]? = some w->
  (∀B:List Addr,Ow mg K H W w o B->List.Sublist B As->∃C:List Addr,Ow mg K H' W w n C/\C.Nodup/\(∀x∈C,x∈B\/x∈A)/\∀x,x∉B->H' x=H x)->(∀x∈A,x∉As)->DMv H W H' W->
  ∃C:List Addr,Ows mg K H' W vs (os.set k n) C/\C.Nodup/\(∀x∈C,x∈As\/x∈A)/\∃B:List Addr,B.Sublist As/\∀x,x∉B->H' x=H x
 | _,_,_,_,_,_,_,_,.nil,_,e,_,_,_,_=>by simp at e
 | _,_,_,0,_,_,n,A,.cons (A:=B) (B:=D) a b,nd,e,e',f,fr,m=>by
  simp at e e';subst e e';obtain ⟨C,h1,h2,h3,h4⟩:=f B a (List.sublist_append_left _ _);have nd':=List.nodup_append.mp nd;refine ⟨C++D,.cons h1 (Ows.on m b fun x hx=>h4 x fun hb=>nd'.2.2 x hb x hx rfl),List.nodup_append.mpr ⟨h2,nd'.2.1,fun x hx y hy z=>?_⟩,fun x hx=>?_,B,List.sublist_append_left _ _,h4⟩
  .subst z;rcases h3 x hx with q | q
   .exact nd'.2.2 x q x hy rfl
   .exact fr x q (List.mem_append_right _ hy)
  .rcases List.mem_append.mp hx with q | q
   .exact (h3 x q).imp (List.mem_append_left _) id
   .exact .inl (List.mem_append_right _ q)
 | _,_,_,k+1,w,o,n,A,.cons (A:=B) (B:=D) a b,nd,e,e',f,fr,m=>by
  have nd':=List.nodup_append.mp nd;obtain ⟨C,h1,h2,h3,E,h4,h5⟩:=Ows.swap (k:=k) (w:=w) (o:=o) (n:=n) (A:=A) b nd'.2.1 (by simpa using e) (by simpa using e') (fun F hF sF=>f F hF (sF.trans (List.sublist_append_right _ _))) (fun x hx hd=>fr x hx (List.mem_append_right _ hd)) m;refine ⟨B++C,.cons (Ow.on m a fun x hx=>h5 x fun hb=>nd'.2.2 x hx x (h4.subset hb) rfl) (by simpa using h1),List.nodup_append.mpr ⟨nd'.1,h2,fun x hx y hy z=>?_⟩,fun x hx=>?_,E,h4.trans (List.sublist_append_right _ _),h5⟩
  .subst z;rcases h3 x hy with q | q
   .exact nd'.2.2 x hx x q rfl
   .exact fr x q 074
  .rcases List.mem_append.mp hx with q | q
   .exact .inl (List.mem_append_left _ q)
   .exact (h3 x q).imp (List.mem_append_right _) id
theorem Ow.put {p:List Nat}:∀{v:V} {o:O} {As:List Addr} {os os':List O} {a:Addr} {vs':List V} {A:List Addr},Ow mg K H W v o As->As.Nodup->L2.sub p o=some (.l os)->VAt H p v (.ref a)->W a->
  (∀vs B,Ows mg K H W vs os B->H a=some (.lst vs)->B.Nodup->a∉B->(∀x∈B,x∈As)->∃C,Ows mg K (upd H a (.lst vs')) W vs' os' C/\C.Nodup/\a∉C/\∀x∈C,x∈B\/x∈A)->(∀x∈A,x∉As)->
  ∃C,Ow mg K (upd H a (.lst vs')) W v (L2.put p (.l os') o) C/\C.Nodup/\(∀x∈C,x∈As\/x∈A)/\a∈As:=by
 induction p with
 | nil=>
  intro v o As os os' a vs' A h nd e qq wa f fr;cases e
  cases (show _=V.ref a from qq)
  cases h with
  | l h tt=>
   have nd':=List.nodup_cons.mp nd;obtain ⟨C,h1,h2,h3,h4⟩:=f _ _ tt h nd'.2 nd'.1 fun x hx=>List.mem_cons_of_mem _ hx
   refine ⟨_,.l zbu h1,List.nodup_cons.mpr ⟨h3,h2⟩,fun x hx=>?_,List.mem_cons_self⟩;rcases List.mem_cons.mp hx with rfl | hx
   .exact .inl List.mem_cons_self
   .exact (h4 x hx).imp (List.mem_cons_of_mem _) id
 | cons k p ih=>
  intro v o Bs os os' a vs' A h nd e qq wa f fr;obtain ⟨b',ws',w,eb,hb,hw,qq⟩:=qq;have m:DMv H W (upd H a (.lst vs')) W:=fun c ob hc nc=>⟨by rw[zaD (fun z=>nc (by rw[z];exact wa))];exact hc,nc⟩
  cases h with
  | @l b ws us As h tt=>
   cases eb;rcases hb with hb | hb<;>rw[h] at hb<;>cases hb;rw[L2.sub] at e;rw[L2.put]
   cases r:us[k]? with
   | none=>rw[r] at e;cases e
   | some o=>
    rw[r] at e;have nd':=List.nodup_cons.mp nd;have sub1:∀{B:List Addr},Ow mg K H W w o B->B.Sublist As->∃C,Ow mg K (upd H a (.lst vs')) W w (L2.put p (.l os') o) C/\C.Nodup/\(∀x∈C,x∈B\/x∈A)/\a∈B:=fun hB sB=>
     ih hB (nd'.2.sublist sB) e qq wa (fun vs B' x1 x2 x3 x4 x5=>f vs B' x1 x2 x3 x4 fun x hx=>List.mem_cons_of_mem _ (sB.subset (x5 x hx))) (fun x hx z=>fr x hx (List.mem_cons_of_mem _ (sB.subset z)))
    obtain ⟨w',A',g1,g2,g3⟩:=tt.get r;rw[hw] at g1;cases g1;have hin:a∈As:=by
     obtain ⟨C,h1,h2,h3,h4⟩:=sub1 g2 g3;exact g3.subset h4
    obtain ⟨C,h1,h2,h3,E,h4,h5⟩:=Ows.swap (H':=upd H a (.lst vs')) (n:=L2.put p (.l os') o) (A:=A) tt nd'.2 r hw (fun B hB sB=>by
     obtain ⟨C,h1,h2,h3,h4⟩:=sub1 hB sB;exact ⟨C,h1,h2,h3,fun x hx=>zaD fun z=>hx (z ▸ h4)⟩) (fun x hx z=>fr x hx (List.mem_cons_of_mem _ z)) m
    refine ⟨_::C,.l (by rw[zaD (show b'≠a from fun z=>nd'.1 (z ▸ hin))];exact h) h1,List.nodup_cons.mpr ⟨fun z=>?_,h2⟩,fun x hx=>?_,List.mem_cons_of_mem _ hin⟩
    .rcases h3 _ z with z | z
     .exact nd'.1 z
     .exact fr _ z List.mem_cons_self
    .rcases List.mem_cons.mp hx with rfl | hx
     .exact .inl List.mem_cons_self
     .exact (h3 x hx).imp (List.mem_cons_of_mem _) id
  | @t b ws us As nw h tt=>
   cases eb;rcases hb with hb | hb<;>rw[h] at hb<;>cases hb;rw[L2.sub] at e;rw[L2.put]
   cases r:us[k]? with
   | none=>rw[r] at e;cases e
   | some o=>
    rw[r] at e;have sub1:∀{B:List Addr},Ow mg K H W w o B->B.Sublist Bs->∃C,Ow mg K (upd H a (.lst vs')) W w (L2.put p (.l os') o) C/\C.Nodup/\(∀x∈C,x∈B\/x∈A)/\a∈B:=fun hB sB=>
     ih hB (nd.sublist sB) e qq wa (fun vs B' x1 x2 x3 x4 x5=>f vs B' x1 x2 x3 x4 fun x hx=>sB.subset (x5 x hx)) (fun x hx z=>fr x hx (sB.subset z))
    obtain ⟨w',A',g1,g2,g3⟩:=tt.get r;rw[hw] at g1;cases g1;have hin:a∈Bs:=by
     obtain ⟨C,h1,h2,h3,h4⟩:=sub1 g2 g3;exact g3.subset h4
    obtain ⟨C,h1,h2,h3,E,h4,h5⟩:=Ows.swap (H':=upd H a (.lst vs')) (n:=L2.put p (.l os') o) (A:=A) tt nd r hw (fun B hB sB=>by
     obtain ⟨C,h1,h2,h3,h4⟩:=sub1 hB sB;exact ⟨C,h1,h2,h3,fun x hx=>zaD fun z=>hx (z ▸ h4)⟩) (fun x hx z=>fr x hx z) m
    exact ⟨C,.t nw (by rw[zaD (show b'≠a from fun z=>nw (by rw[z];exact wa))];exact h) h1,h2,h3,hin⟩
  | _=>cases e
end
abbrev Fp:=Nat->List Addr
def Inn (f:Fp) (x:Addr):Prop:=∃i,x∈f i
structure Fam (f:Fp):Prop where
 nd:∀i,(f i).Nodup
 ap:∀i j,i≠j->∀x,x∈f i->x∉f j
def fset (f:Fp) (i:Nat) (A:List Addr):Fp:=fun j=>if j=i then A else f j
theorem zbk {f:Fp} {i:Nat} {A:List Addr}:fset f i A i=A:=if_pos rfl
theorem zbE {f:Fp} {i j:Nat} {A:List Addr} (h:j≠i):fset f i A j=f j:=if_neg h
theorem Fam.set {f:Fp} {i:Nat} {A:List Addr} (h:Fam f) (nd:A.Nodup) (ap:∀x∈A,∀j,j≠i->x∉f j):Fam (fset f i A):=⟨fun j=>by
 by_cases e:j=i
 .subst e;rw[zbk];exact nd
 .rw[zbE e];exact h.nd j,fun j k hjk x hx=>by
 by_cases e:j=i
 .subst e;rw[zbk] at hx;rw[zbE hjk.symm];exact ap x hx k hjk.symm
 .rw[zbE e] at hx
  by_cases e':k=i
  .subst e';rw[zbk];exact fun z=>ap x z j e hx
  .rw[zbE e'];exact h.ap j k hjk x hx⟩
theorem Inn.set {f:Fp} {i:Nat} {A:List Addr} {x:Addr} (h:Inn (fset f i A) x):Inn f x\/x∈A:=by
 obtain ⟨j,hj⟩:=h
 by_cases e:j=i
 .subst e;rw[zbk] at hj;exact .inr hj
 .rw[zbE e] at hj;exact .inl ⟨j,hj⟩
structure Mv (A:Addr->Prop) (H:Hp) (W:Addr->Prop) (A':Addr->Prop) (H':Hp) (W':Addr->Prop):Prop where
 same:∀b o,H b=some o->¬A b->H' b=some o
 less:∀x,W' x->W x\/H x=none
 more:∀x,W x->A x\/W' x
 ours:∀x,A' x->A x\/H x=none
 sub:∀x,A x->W x
 dom:∀x,W x->H x≠none
 sub':∀x,A' x->W' x
 dom':∀x,W' x->H' x≠none
section
variable {A A1 A2 A':Addr->Prop} {H H1 H2 H':Hp} {W W1 W2 W':Addr->Prop}
theorem Mv.refl (s:∀x,A x->W x) (d:∀x,W x->H x≠none):Mv A H W A H W:=⟨fun _ _ h _=>h,fun _ h=>.inl h,fun _ h=>.inr h,fun _ h=>.inl h,s,d,s,d⟩
theorem Mv.trans (a:Mv A H W A1 H1 W1) (b:Mv A1 H1 W1 A2 H2 W2):Mv A H W A2 H2 W2:=by
 have k:∀x,H1 x=none->A x\/H x=none:=fun x h=>by
  cases q:H x with
  | none=>exact .inr rfl
  | some o=>
   by_cases hA:A x
   .exact .inl hA
   .rw[a.same x o q hA] at h;cases h
 refine ⟨fun x o h n=>b.same x o (a.same x o h n) fun z=>(a.ours x z).elim n fun q=>(by rw[h] at q;cases q),fun x h=>?_,fun x h=>?_,fun x h=>?_,a.sub,a.dom,b.sub',b.dom'⟩
 .rcases b.less x h with q | q
  .exact a.less x q
  .exact (k x q).imp (a.sub x) id
 .rcases a.more x h with q | q
  .exact .inl q
  .rcases b.more x q with r | r
   .exact (a.ours x r).imp id fun q=>absurd q (a.dom x h)
   .exact .inr r
 .rcases b.ours x h with q | q
  .exact a.ours x q
  .exact k x q
theorem Mv.d (m:Mv A H W A' H' W'):DMv H W H' W':=fun a o h n=>⟨m.same a o h fun z=>n (m.sub a z),fun z=>(m.less a z).elim n fun q=>by rw[h] at q;cases q⟩
theorem Mv.wide (m:Mv A H W A' H' W') (h:∀x,A x->A1 x) (s:∀x,A1 x->W x):Mv A1 H W A' H' W':=⟨fun b o e n=>m.same b o e fun z=>n (h b z),m.less,fun x w=>(m.more x w).imp (h x) id,fun x a=>(m.ours x a).imp (h x) id,s,m.dom,m.sub',m.dom'⟩
theorem Mv.narrow (m:Mv A H W A' H' W') (h:∀x,A1 x->A' x):Mv A H W A1 H' W':=⟨m.same,m.less,m.more,fun x a=>m.ours x (h x a),m.sub,m.dom,fun x a=>m.sub' x (h x a),m.dom'⟩
theorem Mv.hand (m:Mv A H W A' H' W') {x:Addr} (w:W x) (n:¬A x):W' x/\H' x=H x:=⟨(m.more x w).resolve_left n,by
 cases q:H x with
 | none=>exact absurd q (m.dom x w)
 | some o=>exact m.same x o q n⟩
theorem Mv.apart (m:Mv A H W A' H' W') {x:Addr} (w:W x) (n:¬A x):¬A' x:=fun z=>(m.ours x z).elim n (m.dom x w)
theorem Mv.put {p:Addr} {o:HO} (s:∀x,A x->W x) (d:∀x,W x->H x≠none) (h:A p):Mv A H W A (upd H p o) W:=
 ⟨fun b u e n=>by rw[zaD (fun z=>n (by rw[z];exact h))];exact e,fun _ h=>.inl h,fun _ h=>.inr h,fun _ h=>.inl h,s,d,s,fun x w=>by
  by_cases e:x=p
  .subst e;rw[zbu];exact fun z=>by cases z
  .rw[zaD e];exact d x w⟩
end
section
variable (mg:Str->Option Value) (K:PySem.W.Frag)
structure Sl (H:Hp) (W:Addr->Prop) (σ:St) (ρ:Rho) (f:Fp):Prop where
 sl:∀(i:Nat) (o:O),ρ[i]? = some o->(o=.z/\f i=[])\/∃v,σ[i]? = some (some v)/\Ow mg K H W v o (f i)
 no:∀i,ρ.length<=i->f i=[]
 len:ρ.length=σ.length
 fam:Fam f
structure Hd (H:Hp) (W:Addr->Prop) (vs:List V) (os:List O) (f:Fp):Prop where
 hd:∀(i:Nat) (o:O),os[i]? = some o->∃v,vs[i]? = some v/\Ow mg K H W v o (f i)
 no:∀i,os.length<=i->f i=[]
 len:vs.length=os.length
 fam:Fam f
def RvOk (H:Hp) (W:Addr->Prop) (σ:St) (v:V):Rv->List Addr->Prop
 | .own o,B=>Ow mg K H W v o B/\B.Nodup
 | .at i p,B=>B=[]/\∃u,σ[i]? = some (some u)/\VAt H p u v
end
section
variable {mg:Str->Option Value} {K:PySem.W.Frag} {A A':Addr->Prop} {H H':Hp} {W W':Addr->Prop} {σ σ':St} {ρ ρ':Rho} {f g:Fp}
theorem Sl.on (s:Sl mg K H W σ ρ f) (m:DMv H W H' W') (e:∀x,Inn f x->H' x=H x):Sl mg K H' W' σ ρ f:=
 ⟨fun i o h=>(s.sl i o h).imp id fun ⟨v,h1,h2⟩=>⟨v,h1,h2.on m fun x hx=>e x ⟨i,hx⟩⟩,s.no,s.len,s.fam⟩
theorem DMv.weak (h:∀x,W' x->W x):DMv H W H W':=fun a o e n=>⟨e,fun z=>n (h a z)⟩
theorem Sl.set {i:Nat} {o:O} {v:V} {B:List Addr} (s:Sl mg K H W σ ρ f) (hi:i < ρ.length) (h:Ow mg K H W v o B) (nd:B.Nodup) (ap:∀x∈B,∀j,j≠i->x∉f j):Sl mg K H W (σ.set i (some v)) (ρ.set i o) (fset f i B):=by
 refine ⟨fun j u e=>?_,fun j hj=>?_,by rw[List.length_set,List.length_set];exact s.len,s.fam.set nd ap⟩
 .by_cases q:j=i
  .subst q;rw[List.getElem?_set_self hi] at e;cases e;exact .inr ⟨v,by rw[List.getElem?_set_self (by rw[<-s.len];exact hi)],by rw[zbk];exact h⟩
  .rw[List.getElem?_set_ne (Ne.symm q)] at e;rw[List.getElem?_set_ne (Ne.symm q),zbE q];exact s.sl j u e
 .rw[List.length_set] at hj;rw[zbE ∅];exact s.no j hj
theorem Sl.setS {i:Nat} {o:O} {v:V} {B:List Addr} (s:Sl mg K H W σ ρ f) (hi:σ[i]? = some (some v)) (h:Ow mg K H W v o B) (nd:B.Nodup) (ap:∀x∈B,∀j,j≠i->x∉f j):Sl mg K H W σ (ρ.set i o) (fset f i B):=by
 have hl:i < σ.length:=by
  by_cases q:i < σ.length
  .exact q
  .rw[List.getElem?_eq_none ∅] at hi;cases hi
 have:=s.set (i:=i) (v:=v) (by rw[s.len];exact hl) h nd ap
 have e:σ.set i (some v)=σ:=by
  apply List.ext_getElem?;intro j
  by_cases q:j=i
  .subst q;rw[List.getElem?_set_self hl,hi]
  .rw[List.getElem?_set_ne (Ne.symm q)]
 rw[e] at this;exact this
theorem Sl.setZ {i:Nat} (s:Sl mg K H W σ ρ f):Sl mg K H W σ (ρ.set i .z) (fset f i []):=by
 refine ⟨fun j u e=>?_,fun j hj=>?_,by rw[List.length_set];exact s.len,s.fam.set List.nodup_nil fun x hx=>nomatch hx⟩
 .by_cases q:j=i
  .subst q
   by_cases hl:j < ρ.length
   .rw[List.getElem?_set_self hl] at e;cases e;exact .inl ⟨rfl,zbk⟩
   .rw[List.getElem?_eq_none (by rw[List.length_set];omega)] at e;cases e
  .rw[List.getElem?_set_ne (Ne.symm q)] at e;rw[zbE q];exact s.sl j u e
 .rw[List.length_set] at hj
  by_cases q:j=i
  .subst q;exact zbk
  .rw[zbE q];exact s.no j hj
theorem Sl.vw {r:Rv} {v:V} {B:List Addr} {o:O} (s:Sl mg K H W σ ρ f) (h:RvOk mg K H W σ v r B) (e:vw ρ r=some o) (nz:o≠.z):∃C,Ow mg K H W v o C/\∀x∈C,Inn f x\/x∈B:=by
 cases r with
 | own u=>cases e;exact ⟨B,h.1,fun x hx=>.inr hx⟩
 | «at» i p=>
  obtain ⟨_,u,h1,h2⟩:=h;rw[L2.vw] at e
  cases q:ρ[i]? with
  | none=>rw[q] at e;cases e
  | some w=>
   rw[q] at e;rcases s.sl i w q with ⟨rfl,_⟩ | ⟨v',g1,g2⟩
   .cases p with
    | nil=>cases e;exact absurd rfl nz
    | cons k p=>cases e
   .rw[h1] at g1;cases g1;obtain ⟨u',C,k1,k2,k3⟩:=g2.sub e
    cases k1.inj h2
    exact ⟨C,k2,fun x hx=>.inl ⟨i,k3.subset hx⟩⟩
end
end L2
namespace L2
open PySem PySem.Spec PyProof.Rows
section
variable {mg:Str->Option Value} {K:PySem.W.Frag} {A A':Addr->Prop} {H H':Hp} {W W':Addr->Prop} {σ σ':St} {ρ ρ':Rho} {f g:Fp}
theorem VAt.on {p:List Nat}:∀{u v:V} {o n:O} {As:List Addr},Ow mg K H W u o As->VAt H p u v->sub p o=some n->(∀x∈As,H' x=H x)->DMv H W H' W'->VAt H' p u v:=by
 induction p with
 | nil=>intro u v o n As _ h _ _ _;exact h
 | cons k p ih=>
  intro u v o n As ow hv es hk m;obtain ⟨a,vs,w,e,h,q,r⟩:=hv
  cases ow with
  | @l b us os Bs h' tt=>
   cases e;have hv:vs=us:=by rcases h with h | h<;>rw[h] at h'<;>cases h'<;>rfl
   subst hv;rw[L2.sub] at es
   cases z:os[k]? with
   | none=>rw[z] at es;cases es
   | some o=>
    rw[z] at es;obtain ⟨w',A1,g1,g2,g3⟩:=tt.get z;rw[q] at g1;cases g1;exact ⟨_,vs,w,rfl,.inl ((hk _ List.mem_cons_self).trans h'),q,ih g2 r es (fun x hx=>hk x (List.mem_cons_of_mem _ (g3.subset hx))) m⟩
  | @t b us os Bs nw h' tt=>
   cases e;have hv:vs=us:=by rcases h with h | h<;>rw[h] at h'<;>cases h'<;>rfl
   subst hv;rw[L2.sub] at es
   cases z:os[k]? with
   | none=>rw[z] at es;cases es
   | some o=>
    rw[z] at es;obtain ⟨w',A1,g1,g2,g3⟩:=tt.get z;rw[q] at g1;cases g1;exact ⟨_,vs,w,rfl,.inr (m _ _ h' nw).1,q,ih g2 r es (fun x hx=>hk x (g3.subset hx)) m⟩
  | _=>cases es
theorem RvOk.on {r:Rv} {v:V} {B:List Addr} {q:Bool} (s:Sl mg K H W σ ρ f) (h:RvOk mg K H W σ v r B) (hB:∀x∈B,W x/\¬Inn f x) (m:Mv (Inn f) H W A' H' W') (hq:q=true->∀x,Inn f x->H' x=H x) (hp:pok ρ q r=true) :
  RvOk mg K H' W' σ v r B:=by
 cases r with
 | own o=>exact ⟨h.1.on m.d fun x hx=>(m.hand (hB x hx).1 (hB x hx).2).2,h.2⟩
 | «at» i p=>
  obtain ⟨e,u,h1,h2⟩:=h;refine ⟨e,u,h1, ?_⟩
  cases p with
  | nil=>exact h2
  | cons k p=>
   rw[pok,Bool.and_eq_true,vw] at hp
   cases z:ρ[i]? with
   | none=>rw[z] at hp;cases hp.2
   | some o=>
    rw[z] at hp;dsimp only at hp;rcases s.sl i o z with ⟨rfl,_⟩ | ⟨u',g1,g2⟩
    .cases hp.2
    .rw[h1] at g1;cases g1
     cases y:L2.sub (k::p) o with
     | none=>rw[y] at hp;cases hp.2
     | some n=>exact VAt.on g2 h2 y (fun x hx=>hq hp.1 x ⟨i,hx⟩) m.d
theorem zdB {r:Rv} {o:O} (h:vn ρ r=some o):vw ρ r=some o/\o≠.z:=by
 unfold vn at h;split at h
 .cases h
 .rename_i h2;exact ⟨h,fun z=>h2 (by rw[h,z])⟩
end
section
variable (mg:Str->Option Value) (K:PySem.W.Frag) (E:XK)
structure Ok (H:Hp) (W:Addr->Prop) (σ:St) (ρ:Rho) (f:Fp):Prop where
 s:Sl mg K H W σ ρ f
 sub:∀x,Inn f x->W x
 dom:∀x,W x->H x≠none
def XW (c:Str) (H:Hp):Prop:=∃C,mg c=some (.ref C)/\XCls K C/\E (.ref C) none H
def kR (σ:St) (H:Hp) (W:Addr->Prop) (f:Fp) (Q:VK):Re Rv->Prop
 | .bad=>False
 | .ok r ρ' q=>∀v H' W' f' B,Sl mg K H' W' σ ρ' f'->RvOk mg K H' W' σ v r B->(∀x∈B,¬Inn f' x)->Mv (Inn f) H W 095 H' W'->(q=true->∀x,Inn f x->H' x=H x)->Q v H'
 | .ex c ρ'=>∀H' W' f',Sl mg K H' W' σ ρ' f'->Mv (Inn f) H W (Inn f') H' W'->XW mg K E c H'
def tR (G:EF):TE:=fun σ H Q=>∃W ρ f,Ok mg K H W σ ρ f/\kR mg K E σ H W f Q (G ρ)
def kG {α:Type} (σ:St) (H:Hp) (W:Addr->Prop) (f:Fp) (Q:α->Hp->Prop):Re α->Prop
 | .bad=>False
 | .ok b ρ' q=>∀H' W' f',Sl mg K H' W' σ ρ' f'->Mv (Inn f) H W (Inn f') H' W'->(q=true->∀x,Inn f x->H' x=H x)->Q b H'
 | .ex c ρ'=>∀H' W' f',Sl mg K H' W' σ ρ' f'->Mv (Inn f) H W (Inn f') H' W'->XW mg K E c H'
def tG {α:Type} (G:Rho->Re α):St->Hp->(α->Hp->Prop)->Prop:=fun σ H Q=>∃W ρ f,Ok mg K H W σ ρ f/\kG mg K E σ H W f Q (G ρ)
abbrev tT (G:TF):TT:=tG mg K E G
structure Rvs (H:Hp) (W:Addr->Prop) (σ:St) (vs:List V) (rs:List Rv) (g:Fp):Prop where
 rv:∀(k:Nat) (r:Rv),rs[k]? = some r->∃v,vs[k]? = some v/\RvOk mg K H W σ v r (g k)
 no:∀k,rs.length<=k->g k=[]
 len:vs.length=rs.length
 fam:Fam g
def kRs (σ:St) (H:Hp) (W:Addr->Prop) (f:Fp) (Q:List V->Hp->Prop):Re (List Rv)->Prop
 | .bad=>False
 | .ok rs ρ' q=>∀vs H' W' f' g,Sl mg K H' W' σ ρ' f'->Rvs mg K H' W' σ vs rs g->(∀x,Inn g x->¬Inn f' x)->Mv (Inn f) H W (fun x=>Inn f' x\/Inn g x) H' W'->(q=true->∀x,Inn f x->H' x=H x)->Q vs H'
 | .ex c ρ'=>∀H' W' f',Sl mg K H' W' σ ρ' f'->Mv (Inn f) H W (Inn f') H' W'->XW mg K E c H'
def tRs (G:AF):TA:=fun σ H Q=>∃W ρ f,Ok mg K H W σ ρ f/\kRs mg K E σ H W f Q (G ρ)
end
abbrev VR (X:Cx) (E:XK) (e:Expr) (G:EF):Prop:=PE X e (tR X.mg X.K E G)
abbrev VT (X:Cx) (E:XK) (e:Expr) (G:TF):Prop:=PT X e (tT X.mg X.K E G)
abbrev VA (X:Cx) (E:XK) (es:List Expr) (G:AF):Prop:=PA X es (tRs X.mg X.K E G)
theorem PE.imp {X:Cx} {e:Expr} {t t':TE} (h:PE X e t) (i:∀σ H Q,t' σ H Q->t σ H Q):PE X e t':=fun pins s σ H Q I q=>h pins s σ H Q I (i σ H Q q)
theorem PT.imp {X:Cx} {e:Expr} {t t':TT} (h:PT X e t) (i:∀σ H Q,t' σ H Q->t σ H Q):PT X e t':=fun pins s σ H Q I q=>h pins s σ H Q I (i σ H Q q)
theorem PA.imp {X:Cx} {e:List Expr} {t t':TA} (h:PA X e t) (i:∀σ H Q,t' σ H Q->t σ H Q):PA X e t':=fun pos pins s σ H Q I q=>h pos pins s σ H Q I (i σ H Q q)
def zaa (i:Nat):EF:=fun ρ=>match ρ[i]? with
 | some .z=>.bad
 | some _=>.ok (.at i []) ρ true
 | none=>.bad
def eC (x:PyData):EF:=fun ρ=>.ok (.own (.d x)) ρ true
section
variable {X:Cx} {E:XK}
theorem Ok.refl {mg:Str->Option Value} {K:PySem.W.Frag} {H:Hp} {W:Addr->Prop} {σ:St} {ρ:Rho} {f:Fp} (o:Ok mg K H W σ ρ f):Mv (Inn f) H W (fun x=>Inn f x\/x∈([]:List Addr)) H W:=
 (Mv.refl o.sub o.dom).narrow fun x h=>h.resolve_right fun z=>nomatch z
theorem zdg {i:Nat} {x:Str} {pos:Pos} (h:PE X (.Name x pos) (tVar i)):VR X E (.Name x pos) (zaa i):=h.imp fun σ H Q hx__=>by
 obtain ⟨W,ρ,f,ok,q⟩:=hx__;unfold zaa at q
 cases e:ρ[i]? with
 | none=>rw[e] at q;exact False.elim q
 | some o=>
  rw[e] at q;rcases ok.s.sl i o e with ⟨rfl,_⟩ | ⟨v,h1,h2⟩
  .exact False.elim q
  .refine ⟨v,h1, ?_⟩
   have:=fun nz:o≠.z=>(show ∀v H' W' f' B,Sl X.mg X.K H' W' σ ρ f'->RvOk X.mg X.K H' W' σ v (.at i []) B->(∀x∈B,¬Inn f' x)->Mv (Inn f) H W 095 H' W'->(true=true->∀x,Inn f x->H' x=H x)->Q v H' from by cases o<;>first | exact q | exact absurd rfl nz) v H W f [] ok.s ⟨rfl,v,h1,rfl⟩ 096 ok.refl fun _ _ _=>rfl
   by_cases nz:o=.z
   .subst nz;exact False.elim q
   .exact this nz
theorem zcm {e:Expr} {c:V} {x:PyData} (h:PE X e (tC c)) (d:∀H W,Dn H W c x):VR X E e (eC x):=h.imp fun σ H Q ⟨W,ρ,f,ok,q⟩=>
 q c H W f [] ok.s ⟨.d (d H W),List.nodup_nil⟩ 096 ok.refl fun _ _ _=>rfl
end
def e2 (A B:EF) (F:O->O->Option O):EF:=fun ρ=>(A ρ).bind fun ra ρ1 q1=>(B ρ1).bind fun rb ρ2 q2=>
 if pok ρ1 q2 ra then match vn ρ2 ra,vn ρ2 rb with
  | some x,some y=>match F x y with
   | some z=>.ok (.own z) ρ2 (q1&&q2)
   | none=>.bad
  | _,_=>.bad
 else .bad
structure Gr (H:Hp) (W:Addr->Prop) (B:List Addr) (H':Hp) (W':Addr->Prop):Prop where
 same:Same H H'
 fresh:∀x∈B,H x=none
 nd:B.Nodup
 w:∀x,W' x↔W x\/x∈B
 dom:∀x∈B,H' x≠none
theorem Gr.refl {H:Hp} {W:Addr->Prop}:Gr H W [] H W:=⟨Same.refl _,fun _ z=>(nomatch z),List.nodup_nil,fun x=>⟨.inl,fun h=>h.resolve_right fun z=>nomatch z⟩,fun _ z=>nomatch z⟩
theorem Gr.new {H:Hp} {W:Addr->Prop} {p:Addr} {o:HO} (h:H p=none):Gr H W [] (upd H p o) W:=⟨Same.new h,fun _ z=>(nomatch z),List.nodup_nil,fun x=>⟨.inl,fun h=>h.resolve_right fun z=>nomatch z⟩,fun _ z=>nomatch z⟩
theorem Gr.newO {H:Hp} {W:Addr->Prop} {p:Addr} {o:HO} (h:H p=none):Gr H W [p] (upd H p o) (fun x=>W x\/x∈[p]):=
 ⟨Same.new h,fun x z=>by rw[List.mem_singleton.mp z];exact h,List.nodup_cons.mpr ⟨fun z=>(nomatch z),List.nodup_nil⟩,fun _=>Iff.rfl,fun x z=>by rw[List.mem_singleton.mp z,zbu];exact fun z=>nomatch z⟩
theorem Gr.mv {A:Addr->Prop} {H H':Hp} {W W':Addr->Prop} {B:List Addr} (g:Gr H W B H' W') (s:∀x,A x->W x) (d:∀x,W x->H x≠none):Mv A H W (fun x=>A x\/x∈B) H' W':=
 ⟨fun b o e _=>g.same b o e,fun x h=>((g.w x).mp h).imp id (g.fresh x),fun x h=>.inr ((g.w x).mpr (.inl h)),fun x h=>h.imp id (g.fresh x),s,d,fun x h=>(g.w x).mpr (h.imp (s x) id),fun x h=>by
  rcases (g.w x).mp h with h | h
  .cases e:H x with
   | none=>exact absurd e (d x h)
   | some o=>rw[g.same x o e];exact fun z=>nomatch z
  .exact g.dom x h⟩
theorem Gr.kept {H H':Hp} {W W':Addr->Prop} {B:List Addr} (g:Gr H W B H' W') (d:∀x,W x->H x≠none) {x:Addr} (h:W x):H' x=H x:=by
 cases e:H x with
 | none=>exact absurd e (d x h)
 | some o=>exact g.same x o e
section
variable (mg:Str->Option Value) (K:PySem.W.Frag)
def rV2 (F:O->O->Option O):R2:=fun x y H Q=>∃W ox oy As Bs z,Ow mg K H W x ox As/\Ow mg K H W y oy Bs/\(∀x,W x->H x≠none)/\F ox oy=some z/\
 ∀v H' W' B,Gr H W B H' W'->Ow mg K H' W' v z B->Q v H'
def rV1 (F:O->Option O):V->Hp->VK->Prop:=fun x H Q=>∃W ox As z,Ow mg K H W x ox As/\(∀x,W x->H x≠none)/\F ox=some z/\
 ∀v H' W' B,Gr H W B H' W'->Ow mg K H' W' v z B->Q v H'
def rVs (F:List O->Option O):List V->Hp->VK->Prop:=fun xs H Q=>∃W os z,xs.length=os.length/\(∀(k:Nat) (o:O),os[k]? = some o->∃v As,xs[k]? = some v/\Ow mg K H W v o As)/\(∀x,W x->H x≠none)/\F os=some z/\
 ∀v H' W' B,Gr H W B H' W'->Ow mg K H' W' v z B->Q v H'
end
section
variable {mg:Str->Option Value} {K:PySem.W.Frag} {E:XK} {σ:St} {H:Hp}
theorem two {A B:EF} {R:V->V->Hp->Prop} {W:Addr->Prop} {ρ:Rho} {f:Fp} (ok:Ok mg K H W σ ρ f)
  (h:match A ρ with
   | .bad=>False
   | .ex c ρ'=>∀H' W' f',Sl mg K H' W' σ ρ' f'->Mv (Inn f) H W (Inn f') H' W'->XW mg K E c H'
   | .ok ra ρ1 q1=>match B ρ1 with
    | .bad=>False
    | .ex c ρ'=>∀H' W' f',Sl mg K H' W' σ ρ' f'->Mv (Inn f) H W (Inn f') H' W'->XW mg K E c H'
    | .ok rb ρ2 q2=>pok ρ1 q2 ra=true/\∀v u H' W' f' C D,Sl mg K H' W' σ ρ2 f'->RvOk mg K H' W' σ v ra C->RvOk mg K H' W' σ u rb D->(∀x∈C,¬Inn f' x)->(∀x∈D,¬Inn f' x)->(∀x∈C,x∉D)->
      Mv (Inn f) H W (fun x=>Inn f' x\/x∈C\/x∈D) H' W'->((q1&&q2)=true->∀x,Inn f x->H' x=H x)->R v u H') :
  tR mg K E A σ H fun x H1=>tR mg K E B σ H1 fun y H2=>R x y H2:=by
 refine ⟨W,ρ,f,ok, ?_⟩
 cases a:A ρ with
 | bad=>rw[a] at h;exact h
 | ex c ρ'=>rw[a] at h;exact h
 | ok ra ρ1 q1=>
  rw[a] at h;intro v H1 W1 f1 C s1 r1 n1 m1 k1;have ok1:Ok mg K H1 W1 σ ρ1 f1:=⟨s1,fun x hx=>m1.sub' x (.inl hx),m1.dom'⟩;refine ⟨W1,ρ1,f1,ok1, ?_⟩;have hC:∀x∈C,W1 x/\¬Inn f1 x:=fun x hx=>⟨m1.sub' x (.inr hx),n1 x hx⟩
  dsimp only at h
  cases b:B ρ1 with
  | bad=>rw[b] at h;exact h
  | ex c ρ'=>
   rw[b] at h;exact fun H2 W2 f2 s2 m2=>h H2 W2 f2 s2 (m1.trans (m2.wide (fun x hx=>.inl hx) m1.sub'))
  | ok rb ρ2 q2=>
   rw[b] at h;obtain ⟨hp,h⟩:=h;intro u H2 W2 f2 D s2 r2 n2 m2 k2;have m2':Mv (fun x=>Inn f1 x\/x∈C) H1 W1 (fun x=>Inn f2 x\/x∈C\/x∈D) H2 W2:=
    ⟨fun b o e n=>m2.same b o e fun z=>n (.inl z),m2.less,fun x w=>(m2.more x w).imp .inl id,fun x w=>by
     rcases w with w | w | w
     .exact (m2.ours x (.inl w)).imp .inl id
     .exact .inl (.inr w)
     .exact (m2.ours x (.inr w)).imp .inl id,m1.sub',m2.dom,fun x w=>by
     rcases w with w | w | w
     .exact m2.sub' x (.inl w)
     .exact (m2.hand (hC x w).1 (hC x w).2).1
     .exact m2.sub' x (.inr w),m2.dom'⟩
   refine h v u H2 W2 f2 C D s2 (r1.on s1 hC m2 k2 hp) r2 (fun x hx z=>m2.apart (hC x hx).1 (hC x hx).2 (.inl z)) n2 (fun x hx z=>m2.apart (hC x hx).1 (hC x hx).2 (.inr z)) (m1.trans m2') fun hq x hx=>?_
   rw[Bool.and_eq_true] at hq;have e1:=k1 hq.1 x hx;have w1:W1 x\/¬W1 x:=Classical.em _
   by_cases i1:Inn f1 x
   .exact (k2 hq.2 x i1).trans e1
   .cases e:H x with
    | none=>exact absurd e (ok.dom x (ok.sub x hx))
    | some o=>
     rw[e] at e1;exact m2.same x o e1 i1
end
section
variable {mg:Str->Option Value} {K:PySem.W.Frag} {A0:Addr->Prop} {H H' H'':Hp} {W W' W'':Addr->Prop} {σ:St} {ρ ρ':Rho} {f f' g:Fp} {B:List Addr}
theorem Gr.d (g:Gr H W B H' W'):DMv H W H' W':=fun a o e n=>⟨g.same a o e,fun z=>((g.w a).mp z).elim n fun q=>by rw[g.fresh a q] at e;cases e⟩
theorem Gr.fin (s:Sl mg K H' W' σ ρ' f') (m:Mv (Inn f) H W A0 H' W') (hA:∀x,Inn f' x->A0 x) (g:Gr H' W' B H'' W'') :
  Sl mg K H'' W'' σ ρ' f'/\(∀x∈B,¬Inn f' x)/\Mv (Inn f) H W 095 H'' W'':=by
 have hW:∀x,Inn f' x->W' x:=fun x hx=>m.sub' x (hA x hx)
 refine ⟨s.on g.d fun x hx=>g.kept m.dom' (hW x hx),fun x hx z=>m.dom' x (hW x z) (g.fresh x hx),(m.trans (g.mv m.sub' m.dom')).narrow fun x hx=>hx.imp (hA x) id⟩
theorem Gr.quiet (o:Ok mg K H W σ ρ f) (g:Gr H' W' B H'' W'') (k:∀x,Inn f x->H' x=H x):∀x,Inn f x->H'' x=H x:=fun x hx=>by
 cases e:H x with
 | none=>exact absurd e (o.dom x (o.sub x hx))
 | some u=>exact g.same x u ((k x hx).trans e)
end
section
variable {X:Cx} {E:XK}
theorem vr2 {A B:EF} {F:O->O->Option O} {σ:St} {H:Hp} {Q:VK} (h:tR X.mg X.K E (e2 A B F) σ H Q):tOp (rV2 X.mg X.K F) (tR X.mg X.K E A) (tR X.mg X.K E B) σ H Q:=by
 obtain ⟨W,ρ,f,ok,q⟩:=h;refine two ok ?_;unfold e2 at q
 cases a:A ρ with
 | bad=>rw[a] at q;exact q
 | ex c ρ'=>rw[a] at q;exact q
 | ok ra ρ1 q1=>
  rw[a] at q;dsimp only[Re.bind] at q ⊢
  cases b:B ρ1 with
  | bad=>rw[b] at q;exact q
  | ex c ρ'=>rw[b] at q;exact q
  | ok rb ρ2 q2=>
   rw[b] at q;dsimp only at q ⊢
   by_cases hp:pok ρ1 q2 ra=true
   .rw[if_pos hp] at q;refine ⟨hp,fun v u H' W' f' C D s r1 r2 n1 n2 n3 m k=>?_⟩
    cases e1:vn ρ2 ra with
    | none=>rw[e1] at q;exact False.elim q
    | some x=>
     cases e2:vn ρ2 rb with
     | none=>rw[e1,e2] at q;exact False.elim q
     | some y=>
      rw[e1,e2] at q;dsimp only at q
      cases e3:F x y with
      | none=>rw[e3] at q;exact False.elim q
      | some z=>
       rw[e3] at q;obtain ⟨a1,a2⟩:=zdB e1;obtain ⟨b1,b2⟩:=zdB e2;obtain ⟨_,o1,_⟩:=s.vw r1 a1 a2;obtain ⟨_,o2,_⟩:=s.vw r2 b1 b2;refine ⟨W',x,y,_,_,z,o1,o2,m.dom',e3,fun w H'' W'' B' g ow=>?_⟩;obtain ⟨g1,g2,g3⟩:=g.fin s m fun x hx=>.inl hx
       exact q w H'' W'' f' B' g1 ⟨ow,g.nd⟩ g2 g3 fun hq=>g.quiet ok (k hq)
   .rw[if_neg hp] at q;exact False.elim q
theorem zoa {op:Operator} {F:O->O->Option O} {a b:Expr} {A B:EF} {pos:Pos} (ho:OpR X (binaryOp op) (rV2 X.mg X.K F)) (ha:VR X E a A) (hb:VR X E b B):VR X E (.BinOp a op b pos) (e2 A B F):=
 (zuV ho ha hb).imp fun _ _ _ h=>vr2 h
theorem zoz {op:CmpOp} {F:O->O->Option O} {a b:Expr} {A B:EF} {pos:Pos} (ho:OpR X (compareOp op) (rV2 X.mg X.K F)) (ha:VR X E a A) (hb:VR X E b B) (hm:behindInMarks op b=false):VR X E (.Compare a [op] [b] pos) (e2 A B F):=
 (zpd ho ha hb hm).imp fun _ _ _ h=>vr2 h
def tst (G:EF):TF:=fun ρ=>match G ρ with
 | .bad=>.bad
 | .ex c ρ'=>.ex c ρ'
 | .ok r ρ' q=>match vn ρ' r with
  | some (.d (.bool b))=>.ok b ρ' q
  | _=>.bad
theorem zu1 {G:EF} {σ:St} {H:Hp} {Q:Bool->Hp->Prop} (h:tT X.mg X.K E (tst G) σ H Q):tR X.mg X.K E G σ H fun x H'=>∃k,x=.bl k/\Q k H':=by
 obtain ⟨W,ρ,f,ok,q⟩:=h;refine ⟨W,ρ,f,ok, ?_⟩;unfold tst at q
 cases a:G ρ with
 | bad=>rw[a] at q;exact q
 | ex c ρ'=>rw[a] at q;exact q
 | ok r ρ' q'=>
  rw[a] at q;intro v H' W' f' B s rv n m k;dsimp only at q
  cases e:vn ρ' r with
  | none=>rw[e] at q;exact False.elim q
  | some o=>
   rw[e] at q;obtain ⟨a1,a2⟩:=zdB e;obtain ⟨_,ow,_⟩:=s.vw rv a1 a2
   cases o with
   | d x=>
    cases x with
    | bool b=>
     cases ow with
     | d hd=>cases hd;exact ⟨b,rfl,q H' W' f' s (m.narrow fun x hx=>.inl hx) k⟩
    | _=>exact False.elim q
   | _=>exact False.elim q
theorem zsN {op:CmpOp} {F:O->O->Option O} {a b:Expr} {A B:EF} {pos:Pos} (ho:OpR X (compareOp op) (rV2 X.mg X.K F)) (ha:VR X E a A) (hb:VR X E b B) (hm:behindInMarks op b=false):VT X E (.Compare a [op] [b] pos) (tst (e2 A B F)):=
 (zpR ho ha hb hm).imp fun σ H Q h=>by
  have:=zu1 h
  exact vr2 (E:=E) (X:=X) this
def e1 (A:EF) (F:O->Option O):EF:=fun ρ=>(A ρ).bind fun ra ρ1 q1=>match vn ρ1 ra with
 | some x=>match F x with
  | some z=>.ok (.own z) ρ1 q1
  | none=>.bad
 | none=>.bad
theorem vr1 {A:EF} {F:O->Option O} {σ:St} {H:Hp} {Q:VK} (h:tR X.mg X.K E (e1 A F) σ H Q):tR X.mg X.K E A σ H fun x H1=>rV1 X.mg X.K F x H1 Q:=by
 obtain ⟨W,ρ,f,ok,q⟩:=h;refine ⟨W,ρ,f,ok, ?_⟩;unfold e1 at q
 cases a:A ρ with
 | bad=>rw[a] at q;exact q
 | ex c ρ'=>rw[a] at q;exact q
 | ok ra ρ1 q1=>
  rw[a] at q;intro v H' W' f' C s r n m k;dsimp only[Re.bind] at q
  cases e1:vn ρ1 ra with
  | none=>rw[e1] at q;exact False.elim q
  | some x=>
   rw[e1] at q;dsimp only at q
   cases e3:F x with
   | none=>rw[e3] at q;exact False.elim q
   | some z=>
    rw[e3] at q;obtain ⟨a1,a2⟩:=zdB e1;obtain ⟨_,o1,_⟩:=s.vw r a1 a2;refine ⟨W',x,_,z,o1,m.dom',e3,fun w H'' W'' B' g ow=>?_⟩;obtain ⟨g1,g2,g3⟩:=g.fin s m fun x hx=>.inl hx
    exact q w H'' W'' f' B' g1 ⟨ow,g.nd⟩ g2 g3 fun hq=>g.quiet ok (k hq)
theorem zue {op:UnaryOp} {F:O->Option O} {a:Expr} {A:EF} {pos:Pos} (ho:UnR X (unaryOp op) (rV1 X.mg X.K F)) (ha:VR X E a A):VR X E (.UnaryOp op a pos) (e1 A F):=
 (zrv ho ha).imp fun _ _ _ h=>vr1 h
def aNil:AF:=fun ρ=>.ok [] ρ true
def zac (A:EF) (R:AF):AF:=fun ρ=>(A ρ).bind fun r ρ1 q1=>(R ρ1).bind fun rs ρ2 q2=>if pok ρ1 q2 r then .ok (r::rs) ρ2 (q1&&q2) else .bad
theorem zfk:VA X E [] aNil:=PA.imp ze4 fun σ H Q ⟨W,ρ,f,ok,q⟩=>
 q [] H W f (fun _=>[]) ok.s ⟨fun k r e=>by simp at e,fun _ _=>rfl,rfl,⟨fun _=>List.nodup_nil,fun _ _ _ _ z=>nomatch z⟩⟩ (fun x ⟨_,z⟩=>nomatch z)
  ((Mv.refl ok.sub ok.dom).narrow fun x h=>h.resolve_right fun ⟨_,z⟩=>nomatch z) fun _ _ _=>rfl
def zhW (B:List Addr) (g:Fp):Fp:=fun k=>match k with | 0=>B | k+1=>g k
theorem inn_cons {B:List Addr} {g:Fp} {x:Addr}:Inn (zhW B g) x↔x∈B\/Inn g x:=⟨fun hx__=>by
 obtain ⟨k,h⟩:=hx__
 cases k with
 | zero=>exact .inl h
 | succ k=>exact .inr ⟨k,h⟩,fun h=>h.elim (fun h=>⟨0,h⟩) fun ⟨k,h⟩=>⟨k+1,h⟩⟩
theorem Fam.cons {B:List Addr} {g:Fp} (nd:B.Nodup) (h:Fam g) (ap:∀x∈B,¬Inn g x):Fam (zhW B g):=⟨fun k=>by
 cases k with
 | zero=>exact nd
 | succ k=>exact h.nd k,fun i j hij x hx hy=>by
 cases i with
 | zero=>
  cases j with
  | zero=>exact hij rfl
  | succ j=>exact ap x hx ⟨j,hy⟩
 | succ i=>
  cases j with
  | zero=>exact ap x hy ⟨i,hx⟩
  | succ j=>exact h.ap i j (fun z=>hij (by rw[z])) x hx hy⟩
theorem RvOk.nd {mg:Str->Option Value} {K:PySem.W.Frag} {H:Hp} {W:Addr->Prop} {σ:St} {v:V} {r:Rv} {B:List Addr} (h:RvOk mg K H W σ v r B):B.Nodup:=by
 cases r with
 | own o=>exact h.2
 | «at» i p=>rw[h.1];exact List.nodup_nil
theorem zeQ {e:Expr} {es:List Expr} {A:EF} {R:AF} (ha:VR X E e A) (hr:VA X E es R) (hs:starEach (e::es) X.env=034::starEach es X.env:=by rfl):VA X E (e::es) (zac A R):=
 (zdW ha hr hs).imp fun σ H Q hx__=>by
  obtain ⟨W,ρ,f,ok,q⟩:=hx__;refine ⟨W,ρ,f,ok, ?_⟩;unfold zac at q
  cases a:A ρ with
  | bad=>rw[a] at q;exact q
  | ex c ρ'=>rw[a] at q;exact q
  | ok r ρ1 q1=>
   rw[a] at q;intro v H1 W1 f1 C s1 r1 n1 m1 k1;have ok1:Ok X.mg X.K H1 W1 σ ρ1 f1:=⟨s1,fun x hx=>m1.sub' x (.inl hx),m1.dom'⟩;refine ⟨W1,ρ1,f1,ok1, ?_⟩;have hC:∀x∈C,W1 x/\¬Inn f1 x:=fun x hx=>⟨m1.sub' x (.inr hx),n1 x hx⟩
   dsimp only[Re.bind] at q
   cases b:R ρ1 with
   | bad=>rw[b] at q;exact q
   | ex c ρ'=>
    rw[b] at q;exact fun H2 W2 f2 s2 m2=>q H2 W2 f2 s2 (m1.trans (m2.wide (fun x hx=>.inl hx) m1.sub'))
   | ok rs ρ2 q2=>
    rw[b] at q;dsimp only at q
    by_cases hp:pok ρ1 q2 r=true
    .rw[if_pos hp] at q;intro vs H2 W2 f2 g s2 r2 n2 m2 k2;have ap:∀x∈C,¬Inn g x:=fun x hx z=>m2.apart (hC x hx).1 (hC x hx).2 (.inr z)
     refine q (v::vs) H2 W2 f2 (zhW C g) s2 ⟨fun k r' e=>?_,fun k hk=>?_,by simp[r2.len],.cons r1.nd r2.fam ap⟩ (fun x hx z=>?_) (m1.trans ⟨fun b o e n=>m2.same b o e fun z=>n (.inl z),m2.less,fun x w=>(m2.more x w).imp .inl id,fun x w=>?_,m1.sub',m2.dom,fun x w=>?_,m2.dom'⟩) fun hq x hx=>?_
     .cases k with
      | zero=>cases e;exact ⟨v,rfl,r1.on s1 hC m2 k2 hp⟩
      | succ k=>exact r2.rv k r' e
     .cases k with
      | zero=>simp at hk
      | succ k=>exact r2.no k (by simpa using hk)
     .rcases inn_cons.mp hx with hx | hx
      .exact m2.apart (hC x hx).1 (hC x hx).2 (.inl z)
      .exact n2 x hx z
     .rcases w with w | w
      .exact (m2.ours x (.inl w)).imp .inl id
      .rcases inn_cons.mp w with w | w
       .exact .inl (.inr w)
       .exact (m2.ours x (.inr w)).imp .inl id
     .rcases w with w | w
      .exact m2.sub' x (.inl w)
      .rcases inn_cons.mp w with w | w
       .exact (m2.hand (hC x w).1 (hC x w).2).1
       .exact m2.sub' x (.inr w)
     .rw[Bool.and_eq_true] at hq;have e1:=k1 hq.1 x hx
      by_cases i1:Inn f1 x
      .exact (k2 hq.2 x i1).trans e1
      .cases e:H x with
       | none=>exact absurd e (ok.dom x (ok.sub x hx))
       | some o=>
        rw[e] at e1;exact m2.same x o e1 i1
    .rw[if_neg hp] at q;exact False.elim q
end
section
variable {mg:Str->Option Value} {K:PySem.W.Frag} {H:Hp} {W:Addr->Prop} {σ:St} {ρ ρ':Rho} {f g:Fp}
structure Gv (W:Addr->Prop) (f:Fp) (W':Addr->Prop) (f':Fp):Prop where
 less:∀x,W' x->W x
 more:∀x,W x->Inn f x\/W' x
 ours:∀x,Inn f' x->Inn f x
 sub:∀x,Inn f' x->W' x
theorem Gv.trans {W1 W2:Addr->Prop} {f1 f2:Fp} (a:Gv W f W1 f1) (b:Gv W1 f1 W2 f2):Gv W f W2 f2:=
 ⟨fun x h=>a.less x (b.less x h),fun x h=>(a.more x h).elim .inl fun h=>(b.more x h).imp (a.ours x) id,fun x h=>a.ours x (b.ours x h),b.sub⟩
theorem Gv.refl (s:∀x,Inn f x->W x):Gv W f W f:=⟨fun _ h=>h,fun _ h=>.inr h,fun _ h=>h,s⟩
theorem zgB {r:Rv} {v:V} {B:List Addr} {o:O} (s:Sl mg K H W σ ρ f) (sb:∀x,Inn f x->W x) (h:RvOk mg K H W σ v r B) (e:coe ρ r=some (o,ρ')) :
  ∃W' f',Sl mg K H W' σ ρ' f'/\Gv W f W' f'/\∃B',Ow mg K H W' v o B'/\B'.Nodup/\∀x∈B',x∈B:=by
 cases r with
 | own u=>cases e;exact ⟨W,f,s,.refl sb,B,h.1,h.2,fun _ z=>z⟩
 | «at» i p=>
  obtain ⟨_,u,h1,h2⟩:=h;rw[coe] at e
  cases q:ρ[i]? with
  | none=>rw[q] at e;cases e
  | some w=>
   rw[q] at e;dsimp only at e;rcases s.sl i w q with ⟨rfl,_⟩ | ⟨v',g1,g2⟩
   .cases p with
    | nil=>cases e
    | cons k p=>cases e
   .rw[h1] at g1;cases g1
    cases y:sub p w with
    | none=>rw[y] at e;cases e
    | some n=>
     rw[y] at e;obtain ⟨u',C,k1,k2,k3⟩:=g2.sub y
     cases k1.inj h2
     have fin:∀xi x,fz w=some xi->fz n=some x->o=.d x->ρ'=ρ.set i (.d xi)->∃W' f',Sl mg K H W' σ ρ' f'/\Gv W f W' f'/\∃B',Ow mg K H W' v o B'/\B'.Nodup/\∀x∈B',x∈B:=fun xi x e1 e2 e3 e4=>by
      subst e3 e4;refine ⟨fun a=>W a/\a∉f i,fset f i [], ?_,⟨fun x h=>h.1,fun x h=>(Classical.em (x∈f i)).imp (fun z=>⟨i,z⟩) fun z=>⟨h,z⟩,fun x h=>h.set.elim id fun z=>(nomatch z),fun x h=>?_⟩,[],.d (k2.dn (fun _ z=>z.1) e2 fun x hx z=>z.2 (k3.subset hx)),List.nodup_nil,fun _ z=>nomatch z⟩
      .have s':Sl mg K H (fun a=>W a/\a∉f i) σ ρ f:=s.on (DMv.weak fun _ z=>z.1) fun _ _=>rfl
       exact s'.setS h1 (.d (g2.dn (fun _ z=>z.1) e1 fun x hx z=>z.2 hx)) List.nodup_nil fun x z=>nomatch z
      .obtain ⟨j,hj⟩:=h
       by_cases ej:j=i
       .subst ej;rw[zbk] at hj;cases hj
       .rw[zbE ej] at hj;exact ⟨sb x ⟨j,hj⟩,fun z=>s.fam.ap j i ej x hj z⟩
     cases n with
     | d x=>cases e;cases k2 with | d hd=>exact ⟨W,f,s,.refl sb,[],.d hd,List.nodup_nil,fun _ z=>nomatch z⟩
     | x c=>cases e;cases k2 with | x n1 n2 n3 n4=>exact ⟨W,f,s,.refl sb,[],.x n1 n2 n3 n4,List.nodup_nil,fun _ z=>nomatch z⟩
     | q ob=>cases e;cases k2 with | q n1=>exact ⟨W,f,s,.refl sb,[],.q n1,List.nodup_nil,fun _ z=>nomatch z⟩
     | g ob=>cases e;cases k2 with | g n1 n2=>exact ⟨W,f,s,.refl sb,[],.g n1 n2,List.nodup_nil,fun _ z=>nomatch z⟩
     | z=>
      dsimp only at e;rw[show fz .z=none from rfl] at e
      cases a1:fz w<;>rw[a1] at e<;>cases e
     | l xs=>
      dsimp only at e
      cases a1:fz w with
      | none=>rw[a1] at e;cases e
      | some xi=>
       cases a2:fz (.l xs) with
       | none=>rw[a1,a2] at e;cases e
       | some x=>rw[a1,a2] at e;cases e;exact fin xi x a1 a2 rfl rfl
     | t xs=>
      dsimp only at e
      cases a1:fz w with
      | none=>rw[a1] at e;cases e
      | some xi=>
       cases a2:fz (.t xs) with
       | none=>rw[a1,a2] at e;cases e
       | some x=>rw[a1,a2] at e;cases e;exact fin xi x a1 a2 rfl rfl
theorem ziC {r:Rv} {v:V} {B:List Addr} {o:O} (s:Sl mg K H W σ ρ f) (sb:∀x,Inn f x->W x) (h:RvOk mg K H W σ v r B) (hB:∀x∈B,W x/\¬Inn f x) (e:mov ρ r=some (o,ρ')) :
  ∃W' f',Sl mg K H W' σ ρ' f'/\Gv W f W' f'/\∃B',Ow mg K H W' v o B'/\B'.Nodup/\∀x∈B',(x∈B\/Inn f x)/\W' x/\¬Inn f' x:=by
 have viaCoe:coe ρ r=some (o,ρ')->∃W' f',Sl mg K H W' σ ρ' f'/\Gv W f W' f'/\∃B',Ow mg K H W' v o B'/\B'.Nodup/\∀x∈B',(x∈B\/Inn f x)/\W' x/\¬Inn f' x:=fun e=>by
  obtain ⟨W',f',s',g,B',h1,h2,h3⟩:=zgB s sb h e;exact ⟨W',f',s',g,B',h1,h2,fun x hx=>⟨.inl (h3 x hx),(g.more x (hB x (h3 x hx)).1).resolve_left (hB x (h3 x hx)).2,fun z=>(hB x (h3 x hx)).2 (g.ours x z)⟩⟩
 cases r with
 | own u=>exact viaCoe e
 | «at» i p=>
  cases p with
  | cons k p=>exact viaCoe e
  | nil=>
   obtain ⟨_,u,h1,h2⟩:=h
   cases (show u=v from h2)
   rw[mov] at e
   cases q:ρ[i]? with
   | none=>rw[q] at e;cases e
   | some w=>
    rw[q] at e;rcases s.sl i w q with ⟨rfl,_⟩ | ⟨v',g1,g2⟩
    .cases e
    .rw[h1] at g1;cases g1;have e':o=w/\ρ'=ρ.set i .z:=by
      cases w<;>first | (cases e;exact ⟨rfl,rfl⟩) | cases e
     obtain ⟨rfl,rfl⟩:=e';exact ⟨W,fset f i [],s.setZ,⟨fun _ h=>h,fun _ h=>.inr h,fun x h=>h.set.elim id fun z=>(nomatch z),fun x h=>sb x (h.set.elim id fun z=>nomatch z)⟩,f i,g2,s.fam.nd i,fun x hx=>⟨.inr ⟨i,hx⟩,sb x ⟨i,hx⟩,fun hx__=>by
      obtain ⟨j,hj⟩:=hx__
      by_cases ej:j=i
      .subst ej;rw[zbk] at hj;cases hj
      .rw[zbE ej] at hj;exact s.fam.ap j i ej x hj hx⟩⟩
def coes (ρ:Rho):List Rv->Option (List O×Rho)
 | []=>some ([],ρ)
 | r::rs=>match coe ρ r with
  | some (o,ρ1)=>match coes ρ1 rs with
   | some (os,ρ2)=>some (o::os,ρ2)
   | none=>none
  | none=>none
def movs (ρ:Rho):List Rv->Option (List O×Rho)
 | []=>some ([],ρ)
 | r::rs=>match mov ρ r with
  | some (o,ρ1)=>match movs ρ1 rs with
   | some (os,ρ2)=>some (o::os,ρ2)
   | none=>none
  | none=>none
theorem Rvs.tail {vs:List V} {r:Rv} {rs:List Rv} (h:Rvs mg K H W σ vs (r::rs) g):∃v us,vs=v::us/\RvOk mg K H W σ v r (g 0)/\Rvs mg K H W σ us rs (fun k=>g (k+1)):=by
 cases vs with
 | nil=>have:=h.len;simp at this
 | cons v us=>
  obtain ⟨v',e,q⟩:=h.rv 0 r rfl;cases e;exact ⟨v,us,rfl,q,⟨fun k r' e=>h.rv (k+1) r' e,fun k hk=>h.no (k+1) (by simpa using hk),by simpa using h.len,⟨fun i=>h.fam.nd _,fun i j hij=>h.fam.ap _ _ ∅⟩⟩⟩
theorem RvOk.weak {W':Addr->Prop} {r:Rv} {v:V} {B:List Addr} (h:RvOk mg K H W σ v r B) (w:∀x,W' x->W x):RvOk mg K H W' σ v r B:=by
 cases r with
 | own o=>exact ⟨h.1.on (DMv.weak w) fun _ _=>rfl,h.2⟩
 | «at» i p=>exact h
theorem Rvs.weak {W':Addr->Prop} {vs:List V} {rs:List Rv} (h:Rvs mg K H W σ vs rs g) (w:∀x,W' x->W x):Rvs mg K H W' σ vs rs g:=
 ⟨fun k r e=>let ⟨v,h1,h2⟩:=h.rv k r e;⟨v,h1,h2.weak w⟩,h.no,h.len,h.fam⟩
theorem zlI:∀{rs:List Rv} {vs:List V} {W:Addr->Prop} {ρ ρ':Rho} {f g:Fp} {os:List O},Sl mg K H W σ ρ f->(∀x,Inn f x->W x)->Rvs mg K H W σ vs rs g->(∀x,Inn g x->W x/\¬Inn f x)->coes ρ rs=some (os,ρ')->
  ∃W' f',Sl mg K H W' σ ρ' f'/\Gv W f W' f'/\∃As,Ows mg K H W' vs os As/\As.Nodup/\∀x∈As,Inn g x
 | [],vs,W,ρ,ρ',f,g,os,s,sb,h,hg,e=>by
  cases e
  cases vs with
  | nil=>exact ⟨W,f,s,.refl sb,[],.nil,List.nodup_nil,fun _ z=>nomatch z⟩
  | cons v vs=>have:=h.len;simp at this
 | r::rs,vs,W,ρ,ρ',f,g,os,s,sb,h,hg,e=>by
  obtain ⟨v,us,rfl,h0,ht⟩:=h.tail;rw[coes] at e
  cases a:coe ρ r with
  | none=>rw[a] at e;cases e
  | some z=>
   obtain ⟨o,ρ1⟩:=z;rw[a] at e;dsimp only at e
   cases b:coes ρ1 rs with
   | none=>rw[b] at e;cases e
   | some z=>
    obtain ⟨os',ρ2⟩:=z;rw[b] at e;cases e;obtain ⟨W1,f1,s1,g1,B,o1,nd1,in1⟩:=zgB s sb h0 a;have hg1:∀x,Inn g x->W1 x/\¬Inn f1 x:=fun x hx=>⟨(g1.more x (hg x hx).1).resolve_left (hg x hx).2,fun z=>(hg x hx).2 (g1.ours x z)⟩
    obtain ⟨W2,f2,s2,g2,As,o2,nd2,in2⟩:=zlI s1 g1.sub (ht.weak g1.less) (fun x ⟨k,hk⟩=>hg1 x ⟨k+1,hk⟩) b;refine ⟨W2,f2,s2,g1.trans g2,B++As,.cons (o1.on (DMv.weak g2.less) fun _ _=>rfl) o2,List.nodup_append.mpr ⟨nd1,nd2,fun x hx y hy z=>?_⟩,fun x hx=>?_⟩
    .subst z;obtain ⟨k,hk⟩:=in2 x hy;exact h.fam.ap 0 (k+1) ∅ x (in1 x hx) hk
    .rcases List.mem_append.mp hx with hx | hx
     .exact ⟨0,in1 x hx⟩
     .obtain ⟨k,hk⟩:=in2 x hx;exact ⟨k+1,hk⟩
theorem zma:∀{rs:List Rv} {vs:List V} {W:Addr->Prop} {ρ ρ':Rho} {f g:Fp} {os:List O},Sl mg K H W σ ρ f->(∀x,Inn f x->W x)->Rvs mg K H W σ vs rs g->(∀x,Inn g x->W x/\¬Inn f x)->movs ρ rs=some (os,ρ')->
  ∃W' f',Sl mg K H W' σ ρ' f'/\Gv W f W' f'/\∃As,Ows mg K H W' vs os As/\As.Nodup/\∀x∈As,(Inn g x\/Inn f x)/\W' x/\¬Inn f' x
 | [],vs,W,ρ,ρ',f,g,os,s,sb,h,hg,e=>by
  cases e
  cases vs with
  | nil=>exact ⟨W,f,s,.refl sb,[],.nil,List.nodup_nil,fun _ z=>nomatch z⟩
  | cons v vs=>have:=h.len;simp at this
 | r::rs,vs,W,ρ,ρ',f,g,os,s,sb,h,hg,e=>by
  obtain ⟨v,us,rfl,h0,ht⟩:=h.tail;rw[movs] at e
  cases a:mov ρ r with
  | none=>rw[a] at e;cases e
  | some z=>
   obtain ⟨o,ρ1⟩:=z;rw[a] at e;dsimp only at e
   cases b:movs ρ1 rs with
   | none=>rw[b] at e;cases e
   | some z=>
    obtain ⟨os',ρ2⟩:=z;rw[b] at e;cases e;obtain ⟨W1,f1,s1,g1,B,o1,nd1,in1⟩:=ziC s sb h0 (fun x hx=>hg x ⟨0,hx⟩) a;have hg1:∀x,Inn g x->W1 x/\¬Inn f1 x:=fun x hx=>⟨(g1.more x (hg x hx).1).resolve_left (hg x hx).2,fun z=>(hg x hx).2 (g1.ours x z)⟩
    obtain ⟨W2,f2,s2,g2,As,o2,nd2,in2⟩:=zma s1 g1.sub (ht.weak g1.less) (fun x ⟨k,hk⟩=>hg1 x ⟨k+1,hk⟩) b;refine ⟨W2,f2,s2,g1.trans g2,B++As,.cons (o1.on (DMv.weak g2.less) fun _ _=>rfl) o2,List.nodup_append.mpr ⟨nd1,nd2,fun x hx y hy z=>?_⟩,fun x hx=>?_⟩
    .subst z;rcases (in2 x hy).1 with ⟨k,hk⟩ | q
     .rcases (in1 x hx).1 with r | r
      .exact h.fam.ap 0 (k+1) ∅ x r hk
      .exact (hg x ⟨k+1,hk⟩).2 r
     .exact (in1 x hx).2.2 q
    .rcases List.mem_append.mp hx with hx | hx
     .obtain ⟨q1,q2,q3⟩:=in1 x hx;exact ⟨q1.imp (fun z=>⟨0,z⟩) id,(g2.more x q2).resolve_left q3,fun z=>q3 (g2.ours x z)⟩
     .obtain ⟨q1,q2,q3⟩:=in2 x hx;exact ⟨q1.elim (fun ⟨k,hk⟩=>.inl ⟨k+1,hk⟩) fun z=>.inr (g1.ours x z),q2,q3⟩
end
def mkT (os:List O):O:=match lds os with | some ds=>.d (.tuple ds) | none=>.t os
def zaA (take:Rho->List Rv->Option (List O×Rho)) (mk:List O->O) (A:AF):EF:=fun ρ=>(A ρ).bind fun rs ρ1 q=>match take ρ1 rs with
 | some (os,ρ2)=>if os.length<=sizeLine then .ok (.own (mk os)) ρ2 q else .bad
 | none=>.bad
def Take (take:Rho->List Rv->Option (List O×Rho)):Prop:=∀{mg:Str->Option Value} {K:PySem.W.Frag} {H:Hp} {σ:St} {rs:List Rv} {vs:List V} {W:Addr->Prop} {ρ ρ':Rho} {f g:Fp} {os:List O},Sl mg K H W σ ρ f->(∀x,Inn f x->W x)->Rvs mg K H W σ vs rs g->(∀x,Inn g x->W x/\¬Inn f x)->take ρ rs=some (os,ρ')->
  ∃W' f',Sl mg K H W' σ ρ' f'/\Gv W f W' f'/\∃As,Ows mg K H W' vs os As/\As.Nodup/\∀x∈As,(Inn g x\/Inn f x)/\W' x/\¬Inn f' x
theorem zf9:Take movs:=@zma
theorem ze3:Take coes:=fun s sb h hg e=>by
 obtain ⟨W',f',s',g,As,h1,h2,h3⟩:=zlI s sb h hg e;exact ⟨W',f',s',g,As,h1,h2,fun x hx=>⟨.inl (h3 x hx),(g.more x (hg x (h3 x hx)).1).resolve_left (hg x (h3 x hx)).2,fun z=>(hg x (h3 x hx)).2 (g.ours x z)⟩⟩
theorem Gv.mv {A:Addr->Prop} {H:Hp} {W W':Addr->Prop} {f f':Fp} {As:List Addr} (g:Gv W f W' f') (hA:∀x,Inn f x->A x) (s:∀x,A x->W x) (d:∀x,W x->H x≠none) (hAs:∀x∈As,A x/\W' x):Mv A H W 089 H W':=
 ⟨fun _ _ h _=>h,fun x h=>.inl (g.less x h),fun x h=>(g.more x h).imp (hA x) id,fun x h=>.inl (h.elim (fun z=>hA x (g.ours x z)) fun z=>(hAs x z).1),s,d,fun x h=>h.elim (g.sub x) fun z=>(hAs x z).2,fun x h=>d x (g.less x h)⟩
section
variable {X:Cx} {E:XK}
theorem zpV {take:Rho->List Rv->Option (List O×Rho)} (ht:Take take) {A:AF} {σ:St} {H:Hp} {W:Addr->Prop} {ρ:Rho} {f:Fp} {R:List V->Hp->Prop} (ok:Ok X.mg X.K H W σ ρ f)
  (h:match A ρ with
   | .bad=>False
   | .ex c ρ'=>∀H' W' f',Sl X.mg X.K H' W' σ ρ' f'->Mv (Inn f) H W (Inn f') H' W'->XW X.mg X.K E c H'
   | .ok rs ρ1 q=>match take ρ1 rs with
    | none=>False
    | some (os,ρ2)=>∀vs H' W' f' As,Sl X.mg X.K H' W' σ ρ2 f'->Ows X.mg X.K H' W' vs os As->As.Nodup->(∀x∈As,¬Inn f' x)->Mv (Inn f) H W 089 H' W'->(q=true->∀x,Inn f x->H' x=H x)->R vs H') :
  tRs X.mg X.K E A σ H R:=by
 refine ⟨W,ρ,f,ok, ?_⟩
 cases a:A ρ with
 | bad=>rw[a] at h;exact h
 | ex c ρ'=>rw[a] at h;exact h
 | ok rs ρ1 q=>
  rw[a] at h;intro vs H1 W1 f1 g s1 r1 n1 m1 k1;dsimp only at h
  cases b:take ρ1 rs with
  | none=>rw[b] at h;exact h.elim
  | some z=>
   obtain ⟨os,ρ2⟩:=z;rw[b] at h;obtain ⟨W2,f2,s2,g2,As,o2,nd2,in2⟩:=ht s1 (fun x hx=>m1.sub' x (.inl hx)) r1 (fun x hx=>⟨m1.sub' x (.inr hx),n1 x hx⟩) b;refine h vs H1 W2 f2 As s2 o2 nd2 (fun x hx=>(in2 x hx).2.2) (m1.trans (g2.mv (fun x hx=>.inl hx) m1.sub' m1.dom' fun x hx=>⟨(in2 x hx).1.elim .inr .inl,(in2 x hx).2.1⟩)) k1
theorem zg8 {take:Rho->List Rv->Option (List O×Rho)} {es:List Expr} {A:AF} {pos:Pos} (ht:Take take) (ha:VA X E es A):VR X E (.List es pos) (zaA take .l A):=
 (zsO ha).imp fun σ H Q hx__=>by
  obtain ⟨W,ρ,f,ok,q⟩:=hx__;refine zpV ht ok ?_;unfold zaA at q
  cases a:A ρ with
  | bad=>rw[a] at q;exact q
  | ex c ρ'=>rw[a] at q;exact q
  | ok rs ρ1 k=>
   rw[a] at q;dsimp only[Re.bind] at q ⊢
   cases b:take ρ1 rs with
   | none=>rw[b] at q;exact False.elim q
   | some z=>
    obtain ⟨os,ρ2⟩:=z;rw[b] at q;dsimp only at q ⊢
    by_cases hz:os.length<=sizeLine
    .rw[if_pos hz] at q;intro vs H' W' f' As s o nd ap m kk;refine ⟨by rw[o.length];exact hz,fun p hp=>?_⟩;have g:Gr H' W' [p] (upd H' p (.lst vs)) (fun x=>W' x\/x∈[p]):=Gr.newO hp;have hpA:p∉As:=fun z=>m.dom' p (m.sub' p (.inr z)) hp
     refine q (.ref p) _ _ f' (p::As) (s.on g.d fun x hx=>g.kept m.dom' (m.sub' x (.inl hx))) ⟨.l zbu 0003,List.nodup_cons.mpr ⟨hpA,nd⟩⟩ (fun x hx z=>?_) ((m.trans (g.mv m.sub' m.dom')).narrow fun x hx=>?_) fun hq=>g.quiet ok (kk hq)
     .rcases List.mem_cons.mp hx with rfl | hx
      .exact m.dom' x (m.sub' x (.inl z)) hp
      .exact ap x hx z
     .rcases hx with hx | hx
      .exact .inl (.inl hx)
      .rcases List.mem_cons.mp hx with rfl | hx
       .exact .inr List.mem_cons_self
       .exact .inl (.inr hx)
    .rw[if_neg hz] at q;exact False.elim q
theorem Ow.mkT {mg:Str->Option Value} {K:PySem.W.Frag} {H:Hp} {W:Addr->Prop} {p:Addr} {vs:List V} {os:List O} {As:List Addr} (n:¬W p) (h:H p=some (.tup vs)) (o:Ows mg K H W vs os As):Ow mg K H W (.ref p) (mkT os) As:=by
 unfold L2.mkT
 cases e:lds os with
 | none=>exact .t n h o
 | some ds=>
  have:=zjN e
  subst this;obtain ⟨h1,rfl⟩:=o.toD;exact .d (.tup n h h1)
theorem zlr {take:Rho->List Rv->Option (List O×Rho)} {es:List Expr} {A:AF} {k:Nat} {pos:Pos} (ht:Take take) (ha:VA X E es A):VR X E (.Tuple es k pos) (zaA take mkT A):=
 (zrC ha).imp fun σ H Q hx__=>by
  obtain ⟨W,ρ,f,ok,q⟩:=hx__;refine zpV ht ok ?_;unfold zaA at q
  cases a:A ρ with
  | bad=>rw[a] at q;exact q
  | ex c ρ'=>rw[a] at q;exact q
  | ok rs ρ1 k=>
   rw[a] at q;dsimp only[Re.bind] at q ⊢
   cases b:take ρ1 rs with
   | none=>rw[b] at q;exact False.elim q
   | some z=>
    obtain ⟨os,ρ2⟩:=z;rw[b] at q;dsimp only at q ⊢
    by_cases hz:os.length<=sizeLine
    .rw[if_pos hz] at q;intro vs H' W' f' As s o nd ap m kk;refine ⟨by rw[o.length];exact hz,fun p hp=>?_⟩;have g:Gr H' W' [] (upd H' p (.tup vs)) W':=Gr.new hp;exact q (.ref p) _ _ f' As (s.on g.d fun x hx=>g.kept m.dom' (m.sub' x (.inl hx))) ⟨.mkT (fun z=>m.dom' p z hp) zbu 0003,nd⟩ ap ((m.trans (g.mv m.sub' m.dom')).narrow fun x hx=>.inl hx) fun hq=>g.quiet ok (kk hq)
    .rw[if_neg hz] at q;exact False.elim q
end
section
variable {mg:Str->Option Value} {K:PySem.W.Frag} {H:Hp} {W:Addr->Prop} {v:V} {As:List Addr}
theorem Ow.int {i:Int} (h:Ow mg K H W v ⇑i As):v=.int i:=by cases h with | d h=>cases h;rfl
theorem Ow.bl {b:Bool} (h:Ow mg K H W v 085 As):v=.bl b:=by cases h with | d h=>cases h;rfl
theorem Ow.str {s:Str} (h:Ow mg K H W v (.d (.str s)) As):v=.str s:=by cases h with | d h=>cases h;rfl
theorem Ow.non (h:Ow mg K H W v 042 As):v=.non:=by cases h with | d h=>cases h;rfl
end
theorem OpR.imp {X:Cx} {f:Value->Value->Sem Value} {r r':R2} (h:OpR X f r) (i:∀x y H Q,r' x y H Q->r x y H Q):OpR X f r':=fun pins s σ H x y v u Q I rx ry q=>h pins s σ H x y v u Q I rx ry (i x y H Q q)
theorem UnR.imp {X:Cx} {f:Value->Sem Value} {r r':V->Hp->VK->Prop} (h:UnR X f r) (i:∀x H Q,r' x H Q->r x H Q):UnR X f r':=fun pins s σ H x v Q I rx q=>h pins s σ H x v Q I rx (i x H Q q)
theorem CallR.imp {X:Cx} {f:Value} {r r':List V->Hp->VK->Prop} (h:CallR X f r) (i:∀x H Q,r' x H Q->r x H Q):CallR X f r':=fun pins s σ H x v Q I rx q=>h pins s σ H x v Q I rx (i x H Q q)
def fI2 (g:Int->Int->Option PyData):O->O->Option O
 | ⇑a,⇑b=>(g a b).map O.d
 | _,_=>none
theorem zoA {g:Int->Int->Option PyData} {x y z:O} (h:fI2 g x y=some z):∃a b c,x=⇑a/\y=⇑b/\g a b=some c/\z=.d c:=by
 unfold fI2 at h;split at h
 .rename_i a b
  cases e:g a b with
  | none=>rw[e] at h;cases h
  | some c=>rw[e] at h;cases h;exact ⟨a,b,c,rfl,rfl,e,rfl⟩
 .cases h
instance (i j:Int):Decidable (CMul i j):=decidable_of_iff ((-18446744073709551616 < i/\i < 18446744073709551616)\/(-18446744073709551616 < j/\j < 18446744073709551616)) (by unfold CMul;omega)
instance (i j:Int):Decidable (zkX i j):=decidable_of_iff (0 < j/\j < 1606938044258990275541962092341162602522202993782792835301376) (by unfold zkX;omega)
instance (i j:Int):Decidable (CPow i j):=decidable_of_iff (0<=j/\j<=1000000/\i.natAbs < 18446744073709551616) (by unfold CPow;omega)
def gC (C:Int->Int->Prop) [∀i j,Decidable (C i j)] (f:Int->Int->Int) (a b:Int):Option PyData:=if C a b then some (.int (f a b)) else none
def gB (f:Int->Int->Bool) (a b:Int):Option PyData:=some (.bool (f a b))
def fSub:O->O->Option O:=fI2 fun a b=>some (.int (a - b))
def fMod:O->O->Option O:=fI2 (gC (fun _ j=>0 < j) fun a b=>a % b)
def fDiv:O->O->Option O:=fI2 (gC zkX fun a b=>a / b)
def fPow:O->O->Option O:=fI2 (gC CPow fun a b=>a ^ b.toNat)
def fLt:O->O->Option O:=fI2 (gB fun a b=>decide (a < b))
def fLe:O->O->Option O:=fI2 (gB fun a b=>decide (a<=b))
def fGt:O->O->Option O:=fI2 (gB fun a b=>decide (b < a))
def fGe:O->O->Option O:=fI2 (gB fun a b=>decide (b<=a))
section
variable {X:Cx}
theorem znM {f:Value->Value->Sem Value} {g:Int->Int->V} {d:Int->Int->PyData} (h:OpR X f (rI0 g)) (e:∀a b H W,Dn H W (g a b) (d a b)):OpR X f (rV2 X.mg X.K (fI2 fun a b=>some (d a b))):=h.imp fun x y H Q hx__=>by
 obtain ⟨W,ox,oy,As,Bs,z,o1,o2,dm,hf,q⟩:=hx__;obtain ⟨a,b,c,rfl,rfl,hc,rfl⟩:=zoA hf;cases hc;exact ⟨a,b,o1.int,o2.int,q _ H W [] .refl (.d (e a b H W))⟩
theorem zqv {f:Value->Value->Sem Value} {C:Int->Int->Prop} [∀i j,Decidable (C i j)] {g:Int->Int->Int} (h:OpR X f (rI C fun a b=>.int (g a b))):OpR X f (rV2 X.mg X.K (fI2 (gC C g))):=h.imp fun x y H Q hx__=>by
 obtain ⟨W,ox,oy,As,Bs,z,o1,o2,dm,hf,q⟩:=hx__;obtain ⟨a,b,c,rfl,rfl,hc,rfl⟩:=zoA hf;unfold gC at hc
 by_cases hC:C a b
 .rw[if_pos hC] at hc;cases hc;exact ⟨a,b,o1.int,o2.int,hC,q _ H W [] .refl ⇑_⟩
 .rw[if_neg hC] at hc;cases hc
theorem zrN:OpR X (binaryOp .Sub) (rV2 X.mg X.K fSub):=znM zrU fun _ _ _ _=>.int _
theorem zsU:OpR X (binaryOp .Mod) (rV2 X.mg X.K fMod):=zqv zsV
theorem zrI:OpR X (binaryOp .FloorDiv) (rV2 X.mg X.K fDiv):=zqv znf
theorem zsc:OpR X (binaryOp .Pow) (rV2 X.mg X.K fPow):=zqv zsT
theorem zqU:OpR X (compareOp .Lt) (rV2 X.mg X.K fLt):=znM zlk fun _ _ _ _=>.bl _
theorem zsI:OpR X (compareOp .LtE) (rV2 X.mg X.K fLe):=znM zm0 fun _ _ _ _=>.bl _
theorem zs7:OpR X (compareOp .Gt) (rV2 X.mg X.K fGt):=znM zuC fun _ _ _ _=>.bl _
end
def fAdd:O->O->Option O
 | ⇑a,⇑b=>some ⇑(a+b)
 | x,y=>match els x,els y with
  | some (true,xs),some (true,ys)=>match lds xs,lds ys with
   | some a,some b=>if a.length+b.length<=sizeLine then some (.l ((a++b).map O.d)) else none
   | _,_=>none
  | _,_=>none
theorem Ow.items {mg:Str->Option Value} {K:PySem.W.Frag} {H:Hp} {W:Addr->Prop} {v:V} {o:O} {As:List Addr} {k:Bool} {os:List O} {ds:List PyData} (h:Ow mg K H W v o As) (e:L2.els o=some (k,os)) (l:lds os=some ds) :
  ∃a vs,v=.ref a/\H a=some (if k then .lst vs else .tup vs)/\Dns H W vs ds:=by
 obtain ⟨a,vs,A,h1,h2,h3,_⟩:=h.els e;rw[zjN l] at h3;exact ⟨a,vs,h1,h2,h3.toD.1⟩
theorem Ow.newL {mg:Str->Option Value} {K:PySem.W.Frag} {H:Hp} {W:Addr->Prop} {p:Addr} {vs:List V} {ds:List PyData} (hp:H p=none) (h:Dns H W vs ds):Ow mg K (upd H p (.lst vs)) (fun x=>W x\/x∈[p]) (.ref p) (.l (ds.map O.d)) [p]:=
 .l zbu (.ofD (h.on (Gr.newO hp).d))
section
variable {X:Cx}
theorem zjT:OpR X (binaryOp .Add) (rV2 X.mg X.K fAdd):=(op_add.or zrA).imp fun x y H Q hx__=>by
 obtain ⟨W,ox,oy,As,Bs,z,o1,o2,dm,hf,q⟩:=hx__;unfold fAdd at hf;split at hf
 .cases hf;exact .inl ⟨_,_,o1.int,o2.int,q _ H W [] .refl ⇑_⟩
 .split at hf
  .rename_i xs ys e1 e2;split at hf
   .rename_i a b l1 l2
    by_cases hz:a.length+b.length<=sizeLine
    .rw[if_pos hz] at hf;cases hf;obtain ⟨p1,v1,rfl,h1,d1⟩:=o1.items e1 l1;obtain ⟨p2,v2,rfl,h2,d2⟩:=o2.items e2 l2;exact .inr ⟨p1,p2,v1,v2,rfl,rfl,h1,h2,by rw[d1.length,d2.length];exact hz,fun p hp=>q _ _ _ _ (.newO hp) (.newL hp (d1.app d2))⟩
    .rw[if_neg hz] at hf;cases hf
   .cases hf
  .cases hf
def fMul:O->O->Option O
 | ⇑a,⇑b=>if CMul a b then some ⇑(a * b) else none
 | x,⇑k=>match els x with
  | some (true,xs)=>match lds xs with
   | some a=>if -9223372036854775808<=k/\k < 9223372036854775808/\a.length * k.toNat<=sizeLine then some (.l ((List.replicate k.toNat a).flatten.map O.d)) else none
   | none=>none
  | _=>none
 | _,_=>none
theorem Dns.rep {P:Addr->Prop} {H:Hp} {xs:List V} {ds:List PyData} (h:Dns H P xs ds):∀k:Nat,Dns H P (List.replicate k xs).flatten (List.replicate k ds).flatten
 | 0=>.nil
 | k+1=>by rw[List.replicate_succ,List.replicate_succ,List.flatten_cons,List.flatten_cons];exact h.app (Dns.rep h k)
theorem zrm:OpR X (binaryOp .Mult) (rV2 X.mg X.K fMul):=(op_mul.or zra).imp fun x y H Q hx__=>by
 obtain ⟨W,ox,oy,As,Bs,z,o1,o2,dm,hf,q⟩:=hx__;unfold fMul at hf;split at hf
 .rename_i a b
  by_cases hC:CMul a b
  .rw[if_pos hC] at hf;cases hf;exact .inl ⟨_,_,o1.int,o2.int,hC,q _ H W [] .refl ⇑_⟩
  .rw[if_neg hC] at hf;cases hf
 .split at hf
  .rename_i k _ _ xs e1;split at hf
   .rename_i a l1
    by_cases hz:-9223372036854775808<=k/\k < 9223372036854775808/\a.length * k.toNat<=sizeLine
    .rw[if_pos hz] at hf;cases hf;obtain ⟨p1,v1,rfl,h1,d1⟩:=o1.items e1 l1;exact .inr ⟨p1,k,v1,rfl,o2.int,h1,hz.1,hz.2.1,by rw[d1.length];exact hz.2.2,fun p hp=>q _ _ _ _ (.newO hp) (.newL hp (d1.rep _))⟩
    .rw[if_neg hz] at hf;cases hf
   .cases hf
  .cases hf
 .cases hf
def fEq (neg:Bool) (x y:O):Option O:=match fz x,fz y with
 | some a,some b=>if SeqAt.shaped a&&SeqAt.shaped b then some (.d (.bool (if neg then !PyData.eqv a b else PyData.eqv a b))) else none
 | _,_=>none
theorem zpe (hu:X.A.units+64 < cLine):OpR X (compareOp .Eq) (rV2 X.mg X.K (fEq false)):=(zrE hu).imp fun x y H Q hx__=>by
 obtain ⟨W,ox,oy,As,Bs,z,o1,o2,dm,hf,q⟩:=hx__;unfold fEq at hf;split at hf
 .rename_i a b e1 e2
  by_cases hz:(SeqAt.shaped a&&SeqAt.shaped b)=true
  .rw[if_pos hz] at hf;cases hf;rw[Bool.and_eq_true] at hz;exact eqD (o1.plain e1) (o2.plain e2) hz.1 hz.2 (q _ H W [] .refl (.d (.bl _)))
  .rw[if_neg hz] at hf;cases hf
 .cases hf
theorem zrH (hu:X.A.units+64 < cLine):OpR X (compareOp .NotEq) (rV2 X.mg X.K 0000):=(zrk hu).imp fun x y H Q hx__=>by
 obtain ⟨W,ox,oy,As,Bs,z,o1,o2,dm,hf,q⟩:=hx__;unfold fEq at hf;split at hf
 .rename_i a b e1 e2
  by_cases hz:(SeqAt.shaped a&&SeqAt.shaped b)=true
  .rw[if_pos hz] at hf;cases hf;rw[Bool.and_eq_true] at hz;exact eqD (o1.plain e1) (o2.plain e2) hz.1 hz.2 (q _ H W [] .refl (.d (.bl _)))
  .rw[if_neg hz] at hf;cases hf
 .cases hf
def isN:O->Bool
 | .d .none=>true
 | _=>false
def isZ:O->Bool
 | .z=>true
 | _=>false
def fIs (neg:Bool) (x y:O):Option O:=if isN y&&!isZ x then some (.d (.bool (if neg then !isN x else isN x))) else none
theorem Ow.nonIff {mg:Str->Option Value} {K:PySem.W.Frag} {H:Hp} {W:Addr->Prop} {v:V} {o:O} {As:List Addr} (h:Ow mg K H W v o As) (nz:isZ o=false):decide (v=.non)=isN o:=by
 cases h with
 | z=>cases nz
 | d h=>cases h<;>first | rfl | (apply decide_eq_false;intro z;cases z)
 | l=>apply decide_eq_false;intro z;cases z
 | t=>apply decide_eq_false;intro z;cases z
 | x=>apply decide_eq_false;intro z;cases z
 | g=>apply decide_eq_false;intro z;cases z
 | q=>apply decide_eq_false;intro z;cases z
theorem zog {neg:Bool} {x y z:O} (h:fIs neg x y=some z):y=.d .none/\isZ x=false/\z=.d (.bool (if neg then !isN x else isN x)):=by
 unfold fIs at h
 by_cases hc:(isN y&&!isZ x)=true
 .rw[if_pos hc] at h;cases h;rw[Bool.and_eq_true] at hc;refine ⟨?_,by simpa using hc.2,rfl⟩
  cases y with
  | d p=>cases p<;>first | rfl | cases hc.1
  | _=>cases hc.1
 .rw[if_neg hc] at h;cases h
theorem zoT:OpR X (compareOp .Is) (rV2 X.mg X.K (fIs false)):=op_isN.imp fun x y H Q hx__=>by
 obtain ⟨W,ox,oy,As,Bs,z,o1,o2,dm,hf,q⟩:=hx__;obtain ⟨rfl,nz,rfl⟩:=zog hf;refine ⟨o2.non, ?_⟩;rw[o1.nonIff nz];exact q _ H W [] .refl (.d (.bl _))
theorem zmv:OpR X (compareOp .IsNot) (rV2 X.mg X.K (fIs true)):=op_notN.imp fun x y H Q hx__=>by
 obtain ⟨W,ox,oy,As,Bs,z,o1,o2,dm,hf,q⟩:=hx__;obtain ⟨rfl,nz,rfl⟩:=zog hf;refine ⟨o2.non, ?_⟩;rw[o1.nonIff nz];exact q _ H W [] .refl (.d (.bl _))
end
def gRet {α:Type} (a:α):Rho->Re α:=fun ρ=>.ok a ρ true
def zb6 {α β:Type} (G:Rho->Re α) (F:α->Rho->Re β):Rho->Re β:=fun ρ=>(G ρ).bind fun a ρ1 q1=>(F a ρ1).bind fun b ρ2 q2=>.ok b ρ2 (q1&&q2)
def eSc {α:Type} (dec:O->Option α) (A:EF):Rho->Re α:=fun ρ=>(A ρ).bind fun r ρ' q=>match vn ρ' r with
 | some o=>match dec o with
  | some a=>.ok a ρ' q
  | none=>.bad
 | none=>.bad
def decI:O->Option Int
 | ⇑i=>some i
 | _=>none
def decB:O->Option Bool
 | .d (.bool b)=>some b
 | _=>none
def eOfB (G:TF):EF:=fun ρ=>(G ρ).bind fun b ρ' q=>.ok (.own 085) ρ' q
section
variable {mg:Str->Option Value} {K:PySem.W.Frag} {E:XK} {σ:St} {H:Hp}
theorem Ok.next {W:Addr->Prop} {ρ':Rho} {f f':Fp} {H':Hp} {W':Addr->Prop} {A:Addr->Prop} (s:Sl mg K H' W' σ ρ' f') (m:Mv (Inn f) H W A H' W') (h:∀x,Inn f' x->A x):Ok mg K H' W' σ ρ' f':=⟨s,fun x hx=>m.sub' x (h x hx),m.dom'⟩
theorem zg3 {W W1:Addr->Prop} {ρ:Rho} {f f1:Fp} {H1 H2:Hp} {A W2:Addr->Prop} {q1 q2:Bool} (ok:Ok mg K H W σ ρ f) (k1:q1=true->∀x,Inn f x->H1 x=H x) (m2:Mv (Inn f1) H1 W1 A H2 W2) (k2:q2=true->∀x,Inn f1 x->H2 x=H1 x) :
  (q1&&q2)=true->∀x,Inn f x->H2 x=H x:=fun hq x hx=>by
 rw[Bool.and_eq_true] at hq;have e1:=k1 hq.1 x hx
 by_cases i1:Inn f1 x
 .exact (k2 hq.2 x i1).trans e1
 .cases e:H x with
  | none=>exact absurd e (ok.dom x (ok.sub x hx))
  | some o=>
   rw[e] at e1;exact m2.same x o e1 i1
theorem tG.bind {α β:Type} {G:Rho->Re α} {F:α->Rho->Re β} {Q:β->Hp->Prop} (h:tG mg K E (zb6 G F) σ H Q):tG mg K E G σ H fun a H1=>tG mg K E (F a) σ H1 Q:=by
 obtain ⟨W,ρ,f,ok,q⟩:=h;refine ⟨W,ρ,f,ok, ?_⟩;unfold zb6 at q
 cases a:G ρ with
 | bad=>rw[a] at q;exact q
 | ex c ρ'=>rw[a] at q;exact q
 | ok x ρ1 q1=>
  rw[a] at q;intro H1 W1 f1 s1 m1 k1;refine ⟨W1,ρ1,f1,.next s1 m1 fun _ z=>z, ?_⟩;dsimp only[Re.bind] at q
  cases b:F x ρ1 with
  | bad=>rw[b] at q;exact q
  | ex c ρ'=>rw[b] at q;exact fun H2 W2 f2 s2 m2=>q H2 W2 f2 s2 (m1.trans m2)
  | ok y ρ2 q2=>rw[b] at q;exact fun H2 W2 f2 s2 m2 k2=>q H2 W2 f2 s2 (m1.trans m2) (zg3 ok k1 m2 k2)
def zi8 {α:Type} (G:Rho->Re α) (F:α->EF):EF:=zb6 G F
theorem tG.then {α:Type} {G:Rho->Re α} {F:α->EF} {Q:VK} (h:tR mg K E (zi8 G F) σ H Q):tG mg K E G σ H fun a H1=>tR mg K E (F a) σ H1 Q:=by
 obtain ⟨W,ρ,f,ok,q⟩:=h;refine ⟨W,ρ,f,ok, ?_⟩;unfold zi8 zb6 at q
 cases a:G ρ with
 | bad=>rw[a] at q;exact q
 | ex c ρ'=>rw[a] at q;exact q
 | ok x ρ1 q1=>
  rw[a] at q;intro H1 W1 f1 s1 m1 k1;refine ⟨W1,ρ1,f1,.next s1 m1 fun _ z=>z, ?_⟩;dsimp only[Re.bind] at q
  cases b:F x ρ1 with
  | bad=>rw[b] at q;exact q
  | ex c ρ'=>rw[b] at q;exact fun H2 W2 f2 s2 m2=>q H2 W2 f2 s2 (m1.trans m2)
  | ok y ρ2 q2=>rw[b] at q;exact fun v H2 W2 f2 B s2 r2 n2 m2 k2=>q v H2 W2 f2 B s2 r2 n2 (m1.trans m2) (zg3 ok k1 m2 k2)
theorem tG.ret {α:Type} {a:α} {Q:α->Hp->Prop} (h:tG mg K E (gRet a) σ H Q):Q a H:=by
 obtain ⟨W,ρ,f,ok,q⟩:=h;exact q H W f ok.s (.refl ok.sub ok.dom) fun _ _ _=>rfl
theorem zoY {α:Type} {dec:O->Option α} {val:α->V} (hd:∀{H:Hp} {W:Addr->Prop} {v:V} {o:O} {As:List Addr} {a:α},Ow mg K H W v o As->dec o=some a->v=val a) {G:EF} {Q:α->Hp->Prop} (h:tG mg K E (eSc dec G) σ H Q) :
  tR mg K E G σ H fun x H'=>∃k,x=val k/\Q k H':=by
 obtain ⟨W,ρ,f,ok,q⟩:=h;refine ⟨W,ρ,f,ok, ?_⟩;unfold eSc at q
 cases a:G ρ with
 | bad=>rw[a] at q;exact q
 | ex c ρ'=>rw[a] at q;exact q
 | ok r ρ' q'=>
  rw[a] at q;intro v H' W' f' B s rv n m k;dsimp only[Re.bind] at q
  cases e:vn ρ' r with
  | none=>rw[e] at q;exact False.elim q
  | some o=>
   rw[e] at q;dsimp only at q;obtain ⟨a1,a2⟩:=zdB e;obtain ⟨_,ow,_⟩:=s.vw rv a1 a2
   cases e':dec o with
   | none=>rw[e'] at q;exact False.elim q
   | some a=>rw[e'] at q;exact ⟨a,hd ow e',q H' W' f' s (m.narrow fun x hx=>.inl hx) k⟩
theorem zlv {H:Hp} {W:Addr->Prop} {v:V} {o:O} {As:List Addr} {a:Int} (h:Ow mg K H W v o As) (e:decI o=some a):v=.int a:=by
 unfold decI at e;split at e
 .cases e;exact h.int
 .cases e
theorem zpT {H:Hp} {W:Addr->Prop} {v:V} {o:O} {As:List Addr} {a:Bool} (h:Ow mg K H W v o As) (e:decB o=some a):v=.bl a:=by
 unfold decB at e;split at e
 .cases e;exact h.bl
 .cases e
theorem zlc {G:TF} {Q:VK} (h:tR mg K E (eOfB G) σ H Q):tG mg K E G σ H fun b H1=>Q (.bl b) H1:=by
 obtain ⟨W,ρ,f,ok,q⟩:=h;refine ⟨W,ρ,f,ok, ?_⟩;unfold eOfB at q
 cases a:G ρ with
 | bad=>rw[a] at q;exact q
 | ex c ρ'=>rw[a] at q;exact q
 | ok b ρ' q'=>
  rw[a] at q;exact fun H' W' f' s m k=>q (.bl b) H' W' f' [] s ⟨.d (.bl b),List.nodup_nil⟩ 096 (m.narrow fun x hx=>hx.resolve_right fun z=>nomatch z) k
theorem twoG {α:Type} {A:EF} {G:Rho->Re α} {R:V->α->Hp->Prop} {W:Addr->Prop} {ρ:Rho} {f:Fp} (ok:Ok mg K H W σ ρ f)
  (h:match A ρ with
   | .bad=>False
   | .ex c ρ'=>∀H' W' f',Sl mg K H' W' σ ρ' f'->Mv (Inn f) H W (Inn f') H' W'->XW mg K E c H'
   | .ok ra ρ1 q1=>match G ρ1 with
    | .bad=>False
    | .ex c ρ'=>∀H' W' f',Sl mg K H' W' σ ρ' f'->Mv (Inn f) H W (Inn f') H' W'->XW mg K E c H'
    | .ok b ρ2 q2=>pok ρ1 q2 ra=true/\∀v H' W' f' C,Sl mg K H' W' σ ρ2 f'->RvOk mg K H' W' σ v ra C->(∀x∈C,¬Inn f' x)->
      Mv (Inn f) H W (fun x=>Inn f' x\/x∈C) H' W'->((q1&&q2)=true->∀x,Inn f x->H' x=H x)->R v b H') :
  tR mg K E A σ H fun x H1=>tG mg K E G σ H1 fun y H2=>R x y H2:=by
 refine ⟨W,ρ,f,ok, ?_⟩
 cases a:A ρ with
 | bad=>rw[a] at h;exact h
 | ex c ρ'=>rw[a] at h;exact h
 | ok ra ρ1 q1=>
  rw[a] at h;intro v H1 W1 f1 C s1 r1 n1 m1 k1;refine ⟨W1,ρ1,f1,.next s1 m1 fun x hx=>.inl hx, ?_⟩;have hC:∀x∈C,W1 x/\¬Inn f1 x:=fun x hx=>⟨m1.sub' x (.inr hx),n1 x hx⟩
  dsimp only at h
  cases b:G ρ1 with
  | bad=>rw[b] at h;exact h
  | ex c ρ'=>
   rw[b] at h;exact fun H2 W2 f2 s2 m2=>h H2 W2 f2 s2 (m1.trans (m2.wide (fun x hx=>.inl hx) m1.sub'))
  | ok y ρ2 q2=>
   rw[b] at h;obtain ⟨hp,h⟩:=h;intro H2 W2 f2 s2 m2 k2;refine h v H2 W2 f2 C s2 (r1.on s1 hC m2 k2 hp) (fun x hx z=>m2.apart (hC x hx).1 (hC x hx).2 z) (m1.trans ⟨fun b o e n=>m2.same b o e fun z=>n (.inl z),m2.less,fun x w=>(m2.more x w).imp .inl id,fun x w=>?_,m1.sub',m2.dom,fun x w=>?_,m2.dom'⟩) (zg3 ok k1 m2 k2)
   .exact w.elim (fun w=>(m2.ours x w).imp .inl id) fun w=>.inl (.inr w)
   .exact w.elim (m2.sub' x) fun w=>(m2.hand (hC x w).1 (hC x w).2).1
end
section
variable {X:Cx} {E:XK}
def eAnd (A B:EF):EF:=eOfB (zb6 (eSc decB A) fun c=>if c then eSc decB B else gRet false)
def eOr (A B:EF):EF:=eOfB (zb6 (eSc decB A) fun c=>if c then gRet true else eSc decB B)
def eNot (A:EF):EF:=eOfB (zb6 (eSc decB A) fun c=>gRet (!c))
theorem zqI {op a pos} {A:EF} (h:VR X E a A):VR X E (.BoolOp op [a] pos) A:=zrK h
theorem toB {B:EF} {σ:St} {H:Hp} {Q:Bool->Hp->Prop} (h:tG X.mg X.K E (eSc decB B) σ H Q):tR X.mg X.K E B σ H fun x H'=>∃b,x=.bl b/\Q b H':=zoY zpT h
theorem tR.mono {mg:Str->Option Value} {K:PySem.W.Frag} {G:EF} {σ:St} {H:Hp} {Q Q':VK} (h:tR mg K E G σ H Q) (i:∀v H,Q v H->Q' v H):tR mg K E G σ H Q':=by
 obtain ⟨W,ρ,f,ok,q⟩:=h;refine ⟨W,ρ,f,ok, ?_⟩
 cases a:G ρ with
 | bad=>rw[a] at q;exact q
 | ex c ρ'=>rw[a] at q;exact q
 | ok r ρ1 q1=>rw[a] at q;exact fun v H' W' f' B s r n m k=>i v H' (q v H' W' f' B s r n m k)
theorem tG.mono {α:Type} {mg:Str->Option Value} {K:PySem.W.Frag} {G:Rho->Re α} {σ:St} {H:Hp} {Q Q':α->Hp->Prop} (h:tG mg K E G σ H Q) (i:∀v H,Q v H->Q' v H):tG mg K E G σ H Q':=by
 obtain ⟨W,ρ,f,ok,q⟩:=h;refine ⟨W,ρ,f,ok, ?_⟩
 cases a:G ρ with
 | bad=>rw[a] at q;exact q
 | ex c ρ'=>rw[a] at q;exact q
 | ok r ρ1 q1=>rw[a] at q;exact fun H' W' f' s m k=>i r H' (q H' W' f' s m k)
theorem zoM {a b rest pos} {A B:EF} (ha:VR X E a A) (hb:VR X E (.BoolOp .And (b::rest) pos) B):VR X E (.BoolOp .And (a::b::rest) pos) (eAnd A B):=(zsG ha hb).imp fun σ H Q h=>by
 refine tR.mono (toB (tG.bind (zlc h))) fun v H1 ⟨c,e,q⟩=>⟨c,e, ?_⟩
 cases c with
 | true=>exact tR.mono (toB q) fun v H2 ⟨b,e,q⟩=>by rw[e];exact q
 | false=>exact tG.ret (a:=false) (Q:=fun b H1=>Q (.bl b) H1) q
theorem zuH {a b rest pos} {A B:EF} (ha:VR X E a A) (hb:VR X E (.BoolOp .Or (b::rest) pos) B):VR X E (.BoolOp .Or (a::b::rest) pos) (eOr A B):=(ztM ha hb).imp fun σ H Q h=>by
 refine tR.mono (toB (tG.bind (zlc h))) fun v H1 ⟨c,e,q⟩=>⟨c,e, ?_⟩
 cases c with
 | false=>exact tR.mono (toB q) fun v H2 ⟨b,e,q⟩=>by rw[e];exact q
 | true=>exact tG.ret (a:=true) (Q:=fun b H1=>Q (.bl b) H1) q
def zdG (A B C:EF) (p q:Int->Int->Bool):TF:=zb6 (eSc decI A) fun a=>zb6 (eSc decI B) fun b=>if p a b then zb6 (eSc decI C) fun c=>gRet (q b c) else gRet false
theorem toI {B:EF} {σ:St} {H:Hp} {Q:Int->Hp->Prop} (h:tG X.mg X.K E (eSc decI B) σ H Q):tR X.mg X.K E B σ H fun x H'=>∃b,x=.int b/\Q b H':=zoY zlv h
theorem zkk {A B C:EF} {p q:Int->Int->Bool} {σ:St} {H:Hp} {Q:VK} (h:tG X.mg X.K E (zdG A B C p q) σ H fun b H1=>Q (.bl b) H1) :
  zly (rI0 fun i j=>.bl (p i j)) (rI0 fun i j=>.bl (q i j)) (tR X.mg X.K E A) (tR X.mg X.K E B) (tR X.mg X.K E C) σ H Q:=by
 refine tR.mono (toI (tG.bind h)) fun v H1 ⟨i,e,h1⟩=>tR.mono (toI (tG.bind h1)) fun u H2 hx__=>?_
 obtain ⟨j,e',h2⟩:=hx__;refine ⟨i,j,e,e',_,rfl, ?_⟩
 cases hp:p i j with
 | true=>
  rw[hp] at h2;exact tR.mono (toI (tG.bind h2)) fun w H3 ⟨k,e'',h3⟩=>⟨j,k,e',e'',tG.ret (a:=q j k) (Q:=fun b H1=>Q (.bl b) H1) h3⟩
 | false=>
  rw[hp] at h2;exact tG.ret (a:=false) (Q:=fun b H1=>Q (.bl b) H1) h2
theorem znl {op op':CmpOp} {a b c:Expr} {pos:Pos} {A B C:EF} {p q:Int->Int->Bool} (ho:OpR X (compareOp op) (rI0 fun i j=>.bl (p i j))) (ho':OpR X (compareOp op') (rI0 fun i j=>.bl (q i j))) (ha:VR X E a A) (hb:VR X E b B) (hc:VR X E c C)
  (hm:lastMarks [op,op'] [b,c]=false:=by with_unfolding_all rfl):VR X E (.Compare a [op,op'] [b,c] pos) (eOfB (zdG A B C p q)):=(znk ho ho' ha hb hc hm).imp fun σ H Q h=>zkk (zlc h)
theorem znq {op op':CmpOp} {a b c:Expr} {pos:Pos} {A B C:EF} {p q:Int->Int->Bool} (ho:OpR X (compareOp op) (rI0 fun i j=>.bl (p i j))) (ho':OpR X (compareOp op') (rI0 fun i j=>.bl (q i j))) (ha:VR X E a A) (hb:VR X E b B) (hc:VR X E c C)
  (hm:lastMarks [op,op'] [b,c]=false:=by with_unfolding_all rfl):VT X E (.Compare a [op,op'] [b,c] pos) (zdG A B C p q):=(zn5 ho ho' ha hb hc hm).imp fun σ H Q h=>zkk (tG.mono h fun b H1 q=>⟨b,rfl,q⟩)
def gAnd (S T:TF):TF:=zb6 S fun c=>if c then T else gRet false
def gOr (S T:TF):TF:=zb6 S fun c=>if c then gRet true else T
def gNot (S:TF):TF:=zb6 S fun c=>gRet (!c)
abbrev VW (X:Cx) (E:XK) (e:Expr) (G:TF):Prop:=PW X e (tT X.mg X.K E G)
theorem PW.imp {X:Cx} {e:Expr} {t t':TT} (h:PW X e t) (i:∀σ H Q,t' σ H Q->t σ H Q):PW X e t':=fun whole pins s σ H Q I q=>h whole pins s σ H Q I (i σ H Q q)
theorem zpX {a pos} {S:TF} (ha:VT X E a S):VW X E (.BoolOp .And [a] pos) S:=zqh ha
theorem zqT {a pos} {S:TF} (ha:VT X E a S):VW X E (.BoolOp .Or [a] pos) S:=zr3 ha
theorem zq3 {a b rest pos} {S T:TF} (ha:VT X E a S) (hb:VW X E (.BoolOp .And (b::rest) pos) T):VW X E (.BoolOp .And (a::b::rest) pos) (gAnd S T):=(zsJ ha hb).imp fun σ H Q h=>tG.mono (tG.bind h) fun c H1 q=>by
 cases c with
 | true=>exact q
 | false=>exact tG.ret q
theorem zuz {a b rest pos} {S T:TF} (ha:VT X E a S) (hb:VW X E (.BoolOp .Or (b::rest) pos) T):VW X E (.BoolOp .Or (a::b::rest) pos) (gOr S T):=(zuy ha hb).imp fun σ H Q h=>tG.mono (tG.bind h) fun c H1 q=>by
 cases c with
 | false=>exact q
 | true=>exact tG.ret q
theorem vt_w {e:Expr} {S:TF} (h:VW X E e S):VT X E e S:=PW.pt h
theorem zon {a pos} {S:TF} (ha:VT X E a S):VT X E (.UnaryOp .Not a pos) (gNot S):=(zrq ha).imp fun σ H Q h=>tG.mono (tG.bind h) fun c H1 q=>tG.ret q
def trV:O->Option Bool
 | .d (.bool b)=>some b
 | ⇑i=>some (i != 0)
 | .d .none=>some false
 | .d (.str s)=>if s.length<=sizeLine then some ((s.length:Int) != 0) else none
 | o=>match els o with
  | some (_,os)=>some (!os.isEmpty)
  | none=>none
theorem zr8 {mg:Str->Option Value} {K:PySem.W.Frag} {H:Hp} {W:Addr->Prop} {v:V} {o:O} {As:List Addr} {b:Bool} (h:Ow mg K H W v o As) (e:trV o=some b):TruV K v H b:=by
 unfold trV at e;split at e
 .cases e;rw[h.bl];exact rfl
 .cases e;rw[h.int];exact rfl
 .cases e;rw[h.non];exact rfl
 .rename_i s
  by_cases hz:s.length<=sizeLine
  .rw[if_pos hz] at e;cases e;rw[h.str];exact ⟨hz,rfl⟩
  .rw[if_neg hz] at e;cases e
 .split at e
  .rename_i k os q;cases e;obtain ⟨a,vs,A,rfl,h2,h3,_⟩:=h.els q
   have:vs.isEmpty=os.isEmpty:=by
    have:=h3.length
    cases vs<;>cases os<;>first | rfl | simp at this
   cases k with
   | true=>exact .inl ⟨vs,SqL.of h2,by rw[this]⟩
   | false=>exact .inr (.inl ⟨vs,SqT.of h2,by rw[this]⟩)
  .cases e
theorem zov {a:Expr} {A:EF} (ha:VR X E a A) (he:∀whole,isTrue a X.env whole=(do let v <-whole;standAt a.pos;holding [v] (truthy v))):VT X E a (eSc trV A):=(znA ha he).imp fun σ H Q h=>by
 obtain ⟨W,ρ,f,ok,q⟩:=h;refine ⟨W,ρ,f,ok, ?_⟩;unfold eSc at q
 cases a:A ρ with
 | bad=>rw[a] at q;exact q
 | ex c ρ'=>rw[a] at q;exact q
 | ok r ρ' q'=>
  rw[a] at q;intro v H' W' f' B s rv n m k;dsimp only[Re.bind] at q
  cases e:vn ρ' r with
  | none=>rw[e] at q;exact False.elim q
  | some o=>
   rw[e] at q;dsimp only at q;obtain ⟨a1,a2⟩:=zdB e;obtain ⟨_,ow,_⟩:=s.vw rv a1 a2
   cases e':trV o with
   | none=>rw[e'] at q;exact False.elim q
   | some b=>rw[e'] at q;exact ⟨b,zr8 ow e',q H' W' f' s (m.narrow fun x hx=>.inl hx) k⟩
def eIf (S:TF) (A B:EF):EF:=zi8 S fun c=>if c then A else B
theorem ztK {c a b:Expr} {pos:Pos} {S:TF} {A B:EF} (hc:VT X E c S) (ha:VR X E a A) (hb:VR X E b B):VR X E (.IfExp c a b pos) (eIf S A B):=(znp hc ha hb).imp fun σ H Q h=>tG.mono (tG.then h) fun c H1 q=>by
 cases c<;>exact q
end
def ze0 (r:Rv) (k:Nat):O->Option Rv
 | .z=>none
 | .d x=>some (.own (.d x))
 | .x c=>some (.own (.x c))
 | .g c=>some (.own (.g c))
 | .q c=>some (.own (.q c))
 | o=>match r with
  | .own _=>some (.own o)
  | .at i p=>some (.at i (p++[k]))
def fIxS:O->Int->Option O
 | .d (.str s),i=>if s.length<=sizeLine then (atI s.cps.toList i).map fun c=>.d (.str ⟨#[c]⟩) else none
 | .q xs,i=>match atI xs i with
  | some (.int n)=>some ⇑n
  | _=>none
 | _,_=>none
def gIx (ρ:Rho) (r:Rv) (i:Int):Option Rv:=match vn ρ r with
 | some o=>match els o with
  | some (_,os)=>match ixN os.length i with
   | some k=>match os[k]? with
    | some c=>ze0 r k c
    | none=>none
   | none=>none
  | none=>(fIxS o i).map Rv.own
 | none=>none
def eIx (A B:EF):EF:=fun ρ=>(A ρ).bind fun ra ρ1 q1=>(eSc decI B ρ1).bind fun i ρ2 q2=>if pok ρ1 q2 ra then match gIx ρ2 ra i with
 | some r=>.ok r ρ2 (q1&&q2)
 | none=>.bad
 else .bad
section
variable {mg:Str->Option Value} {K:PySem.W.Frag} {H:Hp} {W:Addr->Prop} {σ:St} {ρ:Rho} {f:Fp}
theorem zqt {r r':Rv} {k:Nat} {c:O} {a:Addr} {vs:List V} {u:V} {C A:List Addr} (hr:RvOk mg K H W σ (.ref a) r C) (hv:H a=some (.lst vs)\/H a=some (.tup vs)) (hk:vs[k]? = some u) (ou:Ow mg K H W u c A) (hA:∀o,r=.own o->A.Sublist C) (e:ze0 r k c=some r') :
  ∃B,RvOk mg K H W σ u r' B/\∀x∈B,x∈C:=by
 unfold ze0 at e;split at e
 .cases e
 .cases e;cases ou with | d h=>exact ⟨[],⟨.d h,List.nodup_nil⟩,fun _ z=>nomatch z⟩
 .cases e;cases ou with | x h1 h2 h3 h4=>exact ⟨[],⟨.x h1 h2 h3 h4,List.nodup_nil⟩,fun _ z=>nomatch z⟩
 .cases e;cases ou with | g h1 h2=>exact ⟨[],⟨.g h1 h2,List.nodup_nil⟩,fun _ z=>nomatch z⟩
 .cases e;cases ou with | q h1=>exact ⟨[],⟨.q h1,List.nodup_nil⟩,fun _ z=>nomatch z⟩
 .cases r with
  | own o=>cases e;exact ⟨A,⟨ou,hr.2.sublist (hA o rfl)⟩,fun x hx=>(hA o rfl).subset hx⟩
  | «at» i p=>
   cases e;obtain ⟨h1,w,h2,h3⟩:=hr;exact ⟨[],⟨rfl,w,h2,h3.app ⟨a,vs,u,rfl,hv,hk,rfl⟩⟩,fun _ z=>nomatch z⟩
theorem Sl.vw2 {r:Rv} {v:V} {B:List Addr} {o:O} (s:Sl mg K H W σ ρ f) (h:RvOk mg K H W σ v r B) (e:L2.vw ρ r=some o) (nz:o≠.z):∃C,Ow mg K H W v o C/\(∀u,r=.own u->C=B):=by
 cases r with
 | own u=>cases e;exact ⟨B,h.1,fun _ _=>rfl⟩
 | «at» i p=>obtain ⟨C,h1,_⟩:=s.vw h e nz;exact ⟨C,h1,fun u z=>nomatch z⟩
end
section
variable {X:Cx} {E:XK}
theorem zun {a b:Expr} {A B:EF} {pos:Pos} (ha:VR X E a A) (hb:VR X E b B) (hs:zlA b):VR X E (.Subscript a b pos) (eIx A B):=(zuN zsn ha hb hs).imp fun σ H Q hx__=>by
 obtain ⟨W,ρ,f,ok,q⟩:=hx__;have main:tR X.mg X.K E A σ H fun x H1=>tG X.mg X.K E (eSc decI B) σ H1 fun i H2=>rIx X.K x (.int i) H2 Q:=by
  refine twoG ok ?_;unfold eIx at q
  cases a:A ρ with
  | bad=>rw[a] at q;exact q
  | ex c ρ'=>rw[a] at q;exact q
  | ok ra ρ1 q1=>
   rw[a] at q;dsimp only[Re.bind] at q ⊢
   cases b:eSc decI B ρ1 with
   | bad=>rw[b] at q;exact q
   | ex c ρ'=>rw[b] at q;exact q
   | ok i ρ2 q2=>
    rw[b] at q;dsimp only at q ⊢
    by_cases hp:pok ρ1 q2 ra=true
    .rw[if_pos hp] at q;refine ⟨hp,fun v H' W' f' C s r n m k=>?_⟩
     cases e0:gIx ρ2 ra i with
     | none=>rw[e0] at q;exact False.elim q
     | some r'=>
      rw[e0] at q;unfold gIx at e0
      cases e1:vn ρ2 ra with
      | none=>rw[e1] at e0;cases e0
      | some o=>
       rw[e1] at e0;dsimp only at e0;obtain ⟨a1,a2⟩:=zdB e1;obtain ⟨D,ow,hD⟩:=s.vw2 r a1 a2
       cases e2:els o with
       | none=>
        rw[e2] at e0;dsimp only at e0;unfold fIxS at e0;split at e0
        .rename_i y x
         by_cases hz:x.length<=sizeLine
         .rw[if_pos hz] at e0
          cases e3:atI x.cps.toList i with
          | none=>rw[e3] at e0;cases e0
          | some c=>
           rw[e3] at e0;cases e0;exact .inr (.inr ⟨x,i,c,ow.str,rfl,hz,e3,q _ H' W' f' [] s ⟨.d (.str _),List.nodup_nil⟩ 096 (m.narrow fun x hx=>.inl (hx.resolve_right fun z=>nomatch z)) k⟩)
         .rw[if_neg hz] at e0;cases e0
        .rename_i y xs
         cases e3:atI xs i with
         | none=>rw[e3] at e0;cases e0
         | some c=>
          rw[e3] at e0
          cases c with
          | int c=>
           cases e0
           cases ow with
           | q hq=>exact .inl ⟨_,xs,i,.int c,rfl,rfl,hq.sq,e3,q _ H' W' f' [] s ⟨⇑_,List.nodup_nil⟩ 096 (m.narrow fun x hx=>.inl (hx.resolve_right fun z=>nomatch z)) k⟩
          | _=>cases e0
        .cases e0
       | some z=>
        obtain ⟨kd,os⟩:=z;rw[e2] at e0;dsimp only at e0;obtain ⟨p,vs,As,rfl,h2,h3,h4⟩:=ow.els e2
        cases e3:ixN os.length i with
        | none=>rw[e3] at e0;cases e0
        | some j=>
         rw[e3] at e0;dsimp only at e0
         cases e4:os[j]? with
         | none=>rw[e4] at e0;cases e0
         | some c=>
          rw[e4] at e0;obtain ⟨u,Au,g1,g2,g3⟩:=h3.get e4;have hv:H' p=some (.lst vs)\/H' p=some (.tup vs):=by
           cases kd with
           | true=>exact .inl h2
           | false=>exact .inr h2
          obtain ⟨B',r1,in1⟩:=zqt r hv g1 g2 (fun o' z=>(hD o' z) ▸ (g3.trans h4)) e0;have qq:Q u H':=q u H' W' f' B' s r1 (fun x hx=>n x (in1 x hx)) (m.narrow fun x hx=>hx.imp id (in1 x)) k;have at':atI vs i=some u:=by unfold atI;rw[h3.length,e3];exact g1
          cases kd with
          | true=>exact .inl ⟨p,vs,i,u,rfl,rfl,SqL.of h2,at',qq⟩
          | false=>exact .inr (.inl ⟨p,vs,i,u,rfl,rfl,SqT.of h2,at',qq⟩)
    .rw[if_neg hp] at q;exact False.elim q
 exact tR.mono main fun x H1 h=>tR.mono (toI h) fun y H2 ⟨i,e,q⟩=>by rw[e];exact q
def oNo:Rho->Re 08:=gRet none
def zcZ (A:EF):Rho->Re 08:=zb6 (eSc decI A) fun i=>gRet (some i)
abbrev VO (X:Cx) (E:XK) (e:Option Expr) (G:Rho->Re 08):Prop:=PO X e (tG X.mg X.K E G)
theorem zi4:VO X E none oNo:=fun pins s σ H Q I h=>zpy pins s σ H Q I (tG.ret (E:=E) h)
theorem zi9 {e:Expr} {A:EF} (h:VR X E e A):VO X E (some e) (zcZ A):=fun pins s σ H Q I q=>zpH h pins s σ H Q I (tR.mono (toI (tG.bind q)) fun x H1 ⟨i,e,q⟩=>⟨i,e,tG.ret q⟩)
def fSl (o:O) (lo hi:Option Int):Option O:=match els o with
 | some (true,os)=>match lds os with
  | some ds=>some (.l ((cutD ds lo hi).map O.d))
  | none=>none
 | some (false,os)=>match lds os with
  | some ds=>if HT.sIx ds.length 0 lo=0/\HT.sIx ds.length ds.length hi=ds.length then none else some (.d (.tuple (cutD ds lo hi)))
  | none=>none
 | _=>none
def eSl (A:EF) (L U:Rho->Re 08):EF:=fun ρ=>(A ρ).bind fun ra ρ1 q1=>(zb6 L (fun l=>zb6 U fun u=>gRet (l,u)) ρ1).bind fun lu ρ2 q2=>if pok ρ1 q2 ra then match vn ρ2 ra with
  | some o=>match fSl o lu.1 lu.2 with
   | some z=>.ok (.own z) ρ2 (q1&&q2)
   | none=>.bad
  | none=>.bad
 else .bad
theorem zpr {e:Expr} {lo hi:Option Expr} {A:EF} {L U:Rho->Re 08} {pos p2:Pos} (he:VR X E e A) (hl:VO X E lo L) (hu:VO X E hi U):VR X E (.Subscript e (.Slice lo hi none p2) pos) (eSl A L U):=(znH (sl_list.or zqS) he hl hu).imp fun σ H Q hx__=>by
 obtain ⟨W,ρ,f,ok,q⟩:=hx__;have main:tR X.mg X.K E A σ H fun x H1=>tG X.mg X.K E (zb6 L fun l=>zb6 U fun u=>gRet (l,u)) σ H1 fun lu H2=>rSlL X.K x lu.1 lu.2 H2 Q\/rSlT X.K x lu.1 lu.2 H2 Q:=by
  refine twoG ok ?_;unfold eSl at q
  cases a:A ρ with
  | bad=>rw[a] at q;exact q
  | ex c ρ'=>rw[a] at q;exact q
  | ok ra ρ1 q1=>
   rw[a] at q;dsimp only[Re.bind] at q ⊢
   cases b:zb6 L (fun l=>zb6 U fun u=>gRet (l,u)) ρ1 with
   | bad=>rw[b] at q;exact q
   | ex c ρ'=>rw[b] at q;exact q
   | ok lu ρ2 q2=>
    rw[b] at q;dsimp only at q ⊢
    by_cases hp:pok ρ1 q2 ra=true
    .rw[if_pos hp] at q;refine ⟨hp,fun v H' W' f' C s r n m k=>?_⟩
     cases e1:vn ρ2 ra with
     | none=>rw[e1] at q;exact False.elim q
     | some o=>
      rw[e1] at q;dsimp only at q;obtain ⟨a1,a2⟩:=zdB e1;obtain ⟨D,ow,_⟩:=s.vw r a1 a2
      cases e2:fSl o lu.1 lu.2 with
      | none=>rw[e2] at q;exact False.elim q
      | some z=>
       rw[e2] at q;unfold fSl at e2;split at e2
       .rename_i os e3
        cases e4:lds os with
        | none=>rw[e4] at e2;cases e2
        | some ds=>
         rw[e4] at e2;cases e2;obtain ⟨p,vs,rfl,h2,h3⟩:=ow.items e3 e4;refine .inl ⟨p,vs,rfl,SqL.of h2,fun p' hp'=>?_⟩;have g:Gr H' W' [p'] (upd H' p' (.lst (cutV vs lu.1 lu.2))) (fun x=>W' x\/x∈[p']):=.newO hp';obtain ⟨g1,g2,g3⟩:=g.fin s m fun x hx=>.inl hx
         exact q _ _ _ f' [p'] g1 ⟨.newL hp' (h3.cut lu.1 lu.2),g.nd⟩ g2 g3 fun hq=>g.quiet ok (k hq)
       .rename_i os e3
        cases e4:lds os with
        | none=>rw[e4] at e2;cases e2
        | some ds=>
         rw[e4] at e2;dsimp only at e2;obtain ⟨p,vs,rfl,h2,h3⟩:=ow.items e3 e4
         by_cases hz:HT.sIx ds.length 0 lu.1=0/\HT.sIx ds.length ds.length lu.2=ds.length
         .rw[if_pos hz] at e2;cases e2
         .rw[if_neg hz] at e2;cases e2;refine .inr ⟨p,vs,rfl,SqT.of h2,by rw[h3.length];exact hz,fun p' hp'=>?_⟩;have g:Gr H' W' [] (upd H' p' (.tup (cutV vs lu.1 lu.2))) W':=.new hp';obtain ⟨g1,g2,g3⟩:=g.fin s m fun x hx=>.inl hx
          exact q _ _ _ f' [] g1 ⟨.d (.tup (fun z=>m.dom' p' z hp') zbu ((h3.cut lu.1 lu.2).on g.d)),g.nd⟩ g2 g3 fun hq=>g.quiet ok (k hq)
       .cases e2
    .rw[if_neg hp] at q;exact False.elim q
 exact tR.mono main fun x H1 h=>tG.mono (tG.bind h) fun l H2 h2=>tG.mono (tG.bind h2) fun u H3 h3=>tG.ret h3
theorem zp6 {e m:Expr} {te:TE} {pos p2:Pos} (he:PE X e te) (hm:PE X m (tC (.int (-1))))
  (hsub:∀o i,∃ops,subscripted (.Slice none none (some m) p2) false o i=operate ops (getItem o i)):PE X (.Subscript e (.Slice none none (some m) p2) pos) (fun σ H Q=>te σ H fun x H1=>∃a xs,x=.ref a/\H1 a=some 098/\∀p,H1 p=none->Q (.ref p) (upd H1 p (.lst xs.reverse))):=by
 intro pins s σ H Q I h;refine Subscript_ (thn (he pins s σ H _ I h) fun v s1 hx__=>?_);obtain ⟨x,H1,I1,r1,a,xs,e,hx,q⟩:=hx__;subst e;cases r1;refine wpAny_Slice ?_;rw[evalPart_none];refine wpAny_pure ?_;refine wpAny_pure ?_;rw[evalPart_some];refine thn (hm pins s1 σ H1 (fun w H'=>w=.int (-1)/\H'=H1) I1 ⟨rfl,rfl⟩) fun vk s2 hx__=>?_
 obtain ⟨w,H2,I2,r2,ew,eH⟩:=hx__;subst ew eH;obtain ⟨tk,rfl⟩:=r2;have I4:Inv X pins σ H2 { s2 with heap:=s2.heap.push { cls:=.type "slice",data:=.fields #[.none,.none,.int (-1) tk] } }:=I2.kept (t':=s2.toks) fun b ob q=>Heap.get?_push_of_some _ q
 obtain ⟨its,r,ht,hz⟩:=I4.list (SqL.of hx);have hlen:=r.length;obtain ⟨ops,hops⟩:=hsub (.ref a) (.ref s2.heap.objs.size);refine tail_any (T:="list") (ops:=ops) ht.isList.typeIs slot_list_getitem.lookup ?_ hops;refine wpAny_getItem_list_slice (st:=some (-1)) ht.isList (Heap.IsSliceOf.new ..) .none .none (.int _ _) (by decide) ?_ (by rw[List.size_toArray,<-hlen];exact hz);rw[PySem.W.krv_pick];have hv:Vals xs.reverse its.reverse:=r.reverse;exact ⟨.ref _,_,I4.lnew (t':=s2.toks) hv (by rw[List.length_reverse];exact hz),rfl,q _ I4.fresh⟩
def fRev (o:O):Option O:=match els o with
 | some (true,os)=>match lds os with
  | some ds=>some (.l (ds.reverse.map O.d))
  | none=>none
 | _=>none
theorem zol {e m:Expr} {A:EF} {pos p2:Pos} (he:VR X E e A) (hm:PE X m (tC (.int (-1)))) (hsub:∀o i,∃ops,subscripted (.Slice none none (some m) p2) false o i=operate ops (getItem o i)):VR X E (.Subscript e (.Slice none none (some m) p2) pos) (e1 A fRev):=
 (zp6 he hm hsub).imp fun σ H Q h=>tR.mono (vr1 (X:=X) h) fun x H1 hx__=>by
  obtain ⟨W,ox,As,z,o1,dm,hf,q⟩:=hx__;unfold fRev at hf;split at hf
  .rename_i os e3
   cases e4:lds os with
   | none=>rw[e4] at hf;cases hf
   | some ds=>
    rw[e4] at hf;cases hf;obtain ⟨p,vs,rfl,h2,h3⟩:=o1.items e3 e4;exact ⟨p,vs,rfl,h2,fun p' hp'=>q _ _ _ _ (.newO hp') (.newL hp' h3.rev)⟩
  .cases hf
def fIn (neg:Bool) (x y:O):Option O:=match fz x,fz y with
 | some d,some (.list ds)=>if SeqAt.shaped d&&SeqAt.shaped 050 then some (.d (.bool 053)) else none
 | some d,some (.tuple ds)=>if SeqAt.shaped d&&SeqAt.shaped (.tuple ds) then some (.d (.bool 053)) else none
 | _,_=>none
def rInW (neg:Bool):R2:=fun x y H Q=>∃d ds,Dn H (fun _=>False) x d/\(Dn H (fun _=>False) y 050\/Dn H (fun _=>False) y (.tuple ds))/\SeqAt.shaped d=true/\SeqAt.shaped 050=true/\Q (.bl 053) H
theorem zqX (hu:X.A.units+65 < cLine):OpR X (compareOp .In) (rInW false):=by
 intro pins s σ H x y v u Q I rx ry ⟨d,ds,hx,hy,sd,ss,q⟩;obtain ⟨as,ra⟩:=hx.reads I rx;rcases hy with hy | hy
 .obtain ⟨bs,rb⟩:=hy.reads I ry;exact SeqAt.in_list_reads rb ra (SeqAt.canLay_of_shaped ss) (SeqAt.canLay_of_shaped sd) (room_in_shaped sd hu) ⟨.bl _,H,I,rfl,q⟩
 .obtain ⟨bs,rb⟩:=hy.reads I ry;exact SeqAt.in_tuple_reads rb ra (SeqAt.canLay_of_shaped ss) (SeqAt.canLay_of_shaped sd) (room_in_shaped sd hu) ⟨.bl _,H,I,rfl,q⟩
theorem zlE (hu:X.A.units+65 < cLine):OpR X (compareOp .NotIn) (rInW true):=by
 intro pins s σ H x y v u Q I rx ry ⟨d,ds,hx,hy,sd,ss,q⟩;obtain ⟨as,ra⟩:=hx.reads I rx;rcases hy with hy | hy
 .obtain ⟨bs,rb⟩:=hy.reads I ry;exact SeqAt.notIn_list_reads rb ra (SeqAt.canLay_of_shaped ss) (SeqAt.canLay_of_shaped sd) (room_in_shaped sd hu) ⟨.bl _,H,I,rfl,q⟩
 .obtain ⟨bs,rb⟩:=hy.reads I ry;exact SeqAt.notIn_tuple_reads rb ra (SeqAt.canLay_of_shaped ss) (SeqAt.canLay_of_shaped sd) (room_in_shaped sd hu) ⟨.bl _,H,I,rfl,q⟩
theorem zoH {neg:Bool} {x y z:O} (h:fIn neg x y=some z):∃d ds,fz x=some d/\(fz y=some 050\/fz y=some (.tuple ds))/\SeqAt.shaped d=true/\SeqAt.shaped 050=true/\z=.d (.bool 053):=by
 unfold fIn at h;split at h
 .rename_i d ds e1 e2
  by_cases hz:(SeqAt.shaped d&&SeqAt.shaped 050)=true
  .rw[if_pos hz] at h;cases h;rw[Bool.and_eq_true] at hz;exact ⟨d,ds,e1,.inl e2,hz.1,hz.2,rfl⟩
  .rw[if_neg hz] at h;cases h
 .rename_i d ds e1 e2
  by_cases hz:(SeqAt.shaped d&&SeqAt.shaped (.tuple ds))=true
  .rw[if_pos hz] at h;cases h;rw[Bool.and_eq_true] at hz;exact ⟨d,ds,e1,.inr e2,hz.1,hz.2,rfl⟩
  .rw[if_neg hz] at h;cases h
 .cases h
theorem zq5 (hu:X.A.units+65 < cLine):OpR X (compareOp .In) (rV2 X.mg X.K (fIn false)):=(zqX hu).imp fun x y H Q hx__=>by
 obtain ⟨W,ox,oy,As,Bs,z,o1,o2,dm,hf,q⟩:=hx__;obtain ⟨d,ds,e1,e2,s1,s2,rfl⟩:=zoH hf;exact ⟨d,ds,o1.plain e1,e2.imp o2.plain o2.plain,s1,s2,q _ H W [] .refl (.d (.bl _))⟩
theorem zjA (hu:X.A.units+65 < cLine):OpR X (compareOp .NotIn) (rV2 X.mg X.K (fIn true)):=(zlE hu).imp fun x y H Q hx__=>by
 obtain ⟨W,ox,oy,As,Bs,z,o1,o2,dm,hf,q⟩:=hx__;obtain ⟨d,ds,e1,e2,s1,s2,rfl⟩:=zoH hf;exact ⟨d,ds,o1.plain e1,e2.imp o2.plain o2.plain,s1,s2,q _ H W [] .refl (.d (.bl _))⟩
def fNeg:O->Option O
 | ⇑i=>some ⇑(-i)
 | _=>none
theorem zrL:UnR X (unaryOp .USub) (rV1 X.mg X.K fNeg):=un_neg.imp fun x H Q hx__=>by
 obtain ⟨W,ox,As,z,o1,dm,hf,q⟩:=hx__;unfold fNeg at hf;split at hf
 .cases hf;exact ⟨_,o1.int,q _ H W [] .refl ⇑_⟩
 .cases hf
end
def vns (ρ:Rho):List Rv->Option (List O)
 | []=>some []
 | r::rs=>match vn ρ r,vns ρ rs with
  | some o,some os=>some (o::os)
  | _,_=>none
def eB (A:AF) (F:List O->Option O):EF:=fun ρ=>(A ρ).bind fun rs ρ1 q=>match vns ρ1 rs with
 | some os=>match F os with
  | some z=>.ok (.own z) ρ1 q
  | none=>.bad
 | none=>.bad
section
variable {mg:Str->Option Value} {K:PySem.W.Frag} {H:Hp} {W:Addr->Prop} {σ:St} {ρ:Rho} {f:Fp}
theorem zoe (s:Sl mg K H W σ ρ f):∀{rs:List Rv} {vs:List V} {g:Fp} {os:List O},Rvs mg K H W σ vs rs g->vns ρ rs=some os->vs.length=os.length/\∀(k:Nat) (o:O),os[k]? = some o->∃v As,vs[k]? = some v/\Ow mg K H W v o As
 | [],vs,g,os,h,e=>by
  cases e;refine ⟨by have:=h.len;simpa using this,fun k o z=>by simp at z⟩
 | r::rs,vs,g,os,h,e=>by
  obtain ⟨v,us,rfl,h0,ht⟩:=h.tail;rw[vns] at e
  cases a:vn ρ r with
  | none=>rw[a] at e;cases e
  | some o=>
   cases b:vns ρ rs with
   | none=>rw[a,b] at e;cases e
   | some os'=>
    rw[a,b] at e;cases e;obtain ⟨l,k⟩:=zoe s ht b;obtain ⟨a1,a2⟩:=zdB a;obtain ⟨C,ow,_⟩:=s.vw h0 a1 a2;refine ⟨by simp[l],fun j u z=>?_⟩
    cases j with
    | zero=>cases z;exact ⟨v,C,rfl,ow⟩
    | succ j=>exact k j u z
end
section
variable {X:Cx} {E:XK}
theorem vB {A:AF} {F:List O->Option O} {σ:St} {H:Hp} {Q:VK} (h:tR X.mg X.K E (eB A F) σ H Q):tCB (rVs X.mg X.K F) (tRs X.mg X.K E A) σ H Q:=by
 obtain ⟨W,ρ,f,ok,q⟩:=h;refine ⟨W,ρ,f,ok, ?_⟩;unfold eB at q
 cases a:A ρ with
 | bad=>rw[a] at q;exact q
 | ex c ρ'=>rw[a] at q;exact q
 | ok rs ρ1 q1=>
  rw[a] at q;intro vs H' W' f' g s r n m k;dsimp only[Re.bind] at q
  cases e1:vns ρ1 rs with
  | none=>rw[e1] at q;exact False.elim q
  | some os=>
   rw[e1] at q;dsimp only at q
   cases e2:F os with
   | none=>rw[e2] at q;exact False.elim q
   | some z=>
    rw[e2] at q;obtain ⟨h1,h2⟩:=zoe s r e1;refine ⟨W',os,z,h1,h2,m.dom',e2,fun w H'' W'' B' g' ow=>?_⟩;obtain ⟨g1,g2,g3⟩:=g'.fin s m fun x hx=>.inl hx
    exact q w H'' W'' f' B' g1 ⟨ow,g'.nd⟩ g2 g3 fun hq=>g'.quiet ok (k hq)
theorem zez {id:String} {F:List O->Option O} {x:Str} {e:Expr} {es:List Expr} {A:AF} {p pos:Pos} (hc:CallR X (.builtin id) (rVs X.mg X.K F)) (hg:Gl X x) (hm:X.mg x=none) (hv:bootBuiltins x=some (.builtin id)) (ha:VA X E (e::es) A) (hn:x≠"__name__":=by decide) (hdb:065=false:=by decide)
  (he:starEach (e::es) X.env=034::starEach es X.env:=by rfl) (hpl:(backTo pos (starEach es X.env)).any (·.1)=false:=by rfl):VR X E 0008 (eB A F):=(zn8 hc hg hm hv ha hn hdb he hpl).imp fun _ _ _ h=>vB h
theorem ziY {T:String} {F:List O->Option O} {x:Str} {e:Expr} {es:List Expr} {A:AF} {p pos:Pos} (hc:CallR X (.type T) (rVs X.mg X.K F)) (hg:Gl X x) (hm:X.mg x=none) (hv:bootBuiltins x=some (.type T)) (ha:VA X E (e::es) A) (hn:x≠"__name__":=by decide) (hdb:065=false:=by decide)
  (he:starEach (e::es) X.env=034::starEach es X.env:=by rfl) (hpl:(backTo pos (starEach es X.env)).any (·.1)=false:=by rfl):VR X E 0008 (eB A F):=(zmU hc hg hm hv ha hn hdb he hpl).imp fun _ _ _ h=>vB h
def f1 (F:O->Option O):List O->Option O
 | [o]=>F o
 | _=>none
theorem cv1 {f:Value} {r:List V->Hp->VK->Prop} {F:O->Option O} (h:CallR X f r) (i:∀x H Q,rV1 X.mg X.K F x H Q->r [x] H Q):CallR X f (rVs X.mg X.K (f1 F)):=h.imp fun xs H Q hx__=>by
 obtain ⟨W,os,z,hl,ho,dm,hf,q⟩:=hx__;unfold f1 at hf;split at hf
 .rename_i o;obtain ⟨v,As,e,ow⟩:=ho 0 o rfl
  cases xs with
  | nil=>cases e
  | cons x xs=>
   cases e
   cases xs with
   | nil=>exact i _ H Q ⟨W,o,As,z,ow,dm,hf,q⟩
   | cons y ys=>simp at hl
 .cases hf
def f2I (F:Int->Int->Int):List O->Option O
 | [⇑a,⇑b]=>some ⇑(F a b)
 | _=>none
theorem cv2I {f:Value} {F:Int->Int->Int} (h:CallR X f (fun xs H Q=>∃i j,xs=[.int i,.int j]/\Q (.int (F i j)) H)):CallR X f (rVs X.mg X.K (f2I F)):=h.imp fun xs H Q hx__=>by
 obtain ⟨W,os,z,hl,ho,dm,hf,q⟩:=hx__;unfold f2I at hf;split at hf
 .rename_i a b;cases hf;obtain ⟨v,As,e,ow⟩:=ho 0 _ rfl;obtain ⟨v',As',e',ow'⟩:=ho 1 _ rfl
  cases xs with
  | nil=>cases e
  | cons x xs=>
   cases xs with
   | nil=>cases e'
   | cons y xs=>
    cases xs with
    | nil=>
     cases e
     cases e'
     exact ⟨a,b,by rw[ow.int,ow'.int],q _ H W [] .refl ⇑_⟩
    | cons=>cases hl
 .cases hf
def znT:O->Option O
 | .q xs=>some ⇑xs.length
 | _=>none
def fLen (o:O):Option O:=match els o with
 | some (_,os)=>some ⇑os.length
 | none=>znT o
theorem zsd:CallR X (.builtin "len") (rVs X.mg X.K (f1 fLen)):=cv1 zhX fun x H Q hx__=>by
 obtain ⟨W,ox,As,z,o1,dm,hf,q⟩:=hx__;unfold fLen at hf;split at hf
 .rename_i k os e;cases hf;obtain ⟨a,vs,A,rfl,h2,h3,_⟩:=o1.els e;refine ⟨a,vs,rfl, ?_,by rw[h3.length];exact q _ H W [] .refl ⇑_⟩
  cases k with
  | true=>exact .inl (SqL.of h2)
  | false=>exact .inr (SqT.of h2)
 .unfold znT at hf;split at hf
  .cases hf
   cases o1 with
   | q h=>exact ⟨_,_,rfl,.inl h.sq,q _ H W [] .refl ⇑_⟩
  .cases hf
def zjl (o:O):Option O:=match els o with
 | some (_,os)=>match lds os with
  | some ds=>some (.l (ds.map O.d))
  | none=>none
 | none=>none
theorem zpx:CallR X (.type "list") (rVs X.mg X.K (f1 zjl)):=cv1 ziJ fun x H Q hx__=>by
 obtain ⟨W,ox,As,z,o1,dm,hf,q⟩:=hx__;unfold zjl at hf;split at hf
 .rename_i k os e
  cases e4:lds os with
  | none=>rw[e4] at hf;cases hf
  | some ds=>
   rw[e4] at hf;cases hf;obtain ⟨a,vs,rfl,h2,h3⟩:=o1.items e e4;refine ⟨a,vs,rfl, ?_,fun l hl=>q _ _ _ _ (.newO hl) (.newL hl h3)⟩
   cases k with
   | true=>exact .inl (SqL.of h2)
   | false=>exact .inr (SqT.of h2)
 .cases hf
def dIs:List PyData->Option (List Int)
 | []=>some []
 | .int i::ds=>(dIs ds).map (i::·)
 | _=>none
theorem zgO:∀ns:List Int,dIs (ns.map PyData.int)=some ns
 | []=>rfl
 | n::ns=>by simp[dIs,zgO ns]
theorem zmZ:∀{ds:List PyData} {ns:List Int},dIs ds=some ns->ds=ns.map PyData.int
 | [],ns,e=>by cases e;rfl
 | .int i::ds,ns,e=>by
  rw[dIs] at e
  cases q:dIs ds with
  | none=>rw[q] at e;cases e
  | some xs=>rw[q] at e;cases e;rw[zmZ q];rfl
 | .none::_,_,e=>by cases e
 | .bool _::_,_,e=>by cases e
 | .str _::_,_,e=>by cases e
 | .list _::_,_,e=>by cases e
 | .tuple _::_,_,e=>by cases e
 | .dict _::_,_,e=>by cases e
def zsOf (o:O):Option (List Int):=match fz o with
 | some (.list ds)=>dIs ds
 | _=>none
theorem zji {o:O} {ns:List Int} (h:zsOf o=some ns):fz o=some (.list (ns.map PyData.int)):=by
 unfold zsOf at h;split at h
 .rename_i ds e;rw[e,zmZ h]
 .cases h
def fSum (o:O):Option O:=(zsOf o).map fun ns=>⇑ns.sum
theorem zot (hc:X.calm=true):CallR X (.builtin "sum") (rVs X.mg X.K (f1 fSum)):=cv1 (zml hc) fun x H Q hx__=>by
 obtain ⟨W,ox,As,z,o1,dm,hf,q⟩:=hx__;unfold fSum at hf
 cases e:zsOf ox with
 | none=>rw[e] at hf;cases hf
 | some ns=>
  rw[e] at hf;cases hf;exact ⟨x,_,ns,rfl,o1.plain (zji e),q _ H W [] .refl ⇑_⟩
def zd2:List Int->Option Int
 | []=>none
 | n::ns=>match zd2 ns with
  | some m=>some (if n < m then n else m)
  | none=>some n
theorem zgP:∀{ns:List Int} {m:Int},zd2 ns=some m->m∈ns/\∀a∈ns,m<=a
 | [],m,e=>by cases e
 | n::ns,m,e=>by
  rw[zd2] at e
  cases q:zd2 ns with
  | none=>
   rw[q] at e;cases e
   have:ns=[]:=by
    cases ns with
    | nil=>rfl
    | cons a as=>rw[zd2] at q;split at q<;>cases q
   subst this;exact ⟨List.mem_cons_self,fun a ha=>Int.le_of_eq (List.mem_singleton.mp ha).symm⟩
  | some k=>
   rw[q] at e;obtain ⟨h1,h2⟩:=zgP q;cases e
   by_cases hk:n < k
   .rw[if_pos hk];refine ⟨List.mem_cons_self,fun a ha=>?_⟩;rcases List.mem_cons.mp ha with rfl | ha
    .exact Int.le_refl _
    .exact Int.le_trans (Int.le_of_lt hk) (h2 a ha)
   .rw[if_neg hk];refine ⟨List.mem_cons_of_mem _ h1,fun a ha=>?_⟩;rcases List.mem_cons.mp ha with rfl | ha
    .omega
    .exact h2 a ha
theorem zjc {ns:List Int} {m k:Int} (h:zd2 ns=some m) (h1:k∈ns) (h2:∀a∈ns,k<=a):k=m:=by
 obtain ⟨g1,g2⟩:=zgP h
 have:=g2 k h1
 have:=h2 m g1
 omega
def fMin (o:O):Option O:=match zsOf o with
 | some ns=>(zd2 ns).map fun m=>⇑m
 | none=>none
theorem zqW (hc:X.calm=true):CallR X (.builtin "min") (rVs X.mg X.K (f1 fMin)):=cv1 (zlV hc) fun x H Q hx__=>by
 obtain ⟨W,ox,As,z,o1,dm,hf,q⟩:=hx__;unfold fMin at hf
 cases e:zsOf ox with
 | none=>rw[e] at hf;cases hf
 | some ns=>
  rw[e] at hf;dsimp only at hf
  cases e2:zd2 ns with
  | none=>rw[e2] at hf;cases hf
  | some m=>
   rw[e2] at hf;cases hf;refine ⟨x,_,ns,rfl,o1.plain (zji e),fun z=>(by rw[z] at e2;cases e2),fun k hk hl=>?_⟩;rw[zjc e2 hk hl];exact q _ H W [] .refl ⇑_
theorem zpt (hc:X.calm=true):CallR X (.builtin "max") (rVs X.mg X.K (f2I fun i j=>if j > i then j else i)):=cv2I (zmR hc)
def zlB:O->Option O
 | ⇑i=>some ⇑i
 | .d (.bool b)=>some ⇑(if b then 1 else 0)
 | _=>none
theorem zsS:CallR X (.type "int") (rVs X.mg X.K (f1 zlB)):=cv1 zlD fun x H Q hx__=>by
 obtain ⟨W,ox,As,z,o1,dm,hf,q⟩:=hx__;unfold zlB at hf;split at hf
 .cases hf;exact .inl ⟨_,by rw[o1.int],q _ H W [] .refl ⇑_⟩
 .cases hf;exact .inr ⟨_,by rw[o1.bl],q _ H W [] .refl ⇑_⟩
 .cases hf
def insZ (n:Int):List Int->List Int
 | []=>[n]
 | m::ms=>if n<=m then n::m::ms else m::insZ n ms
def zdq:List Int->List Int
 | []=>[]
 | n::ns=>insZ n (zdq ns)
theorem zgD (n:Int):∀ms:List Int,(insZ n ms).Perm (n::ms)
 | []=>.refl _
 | m::ms=>by
  rw[insZ];split
  .exact .refl _
  .exact ((zgD n ms).cons m).trans (.swap _ _ _)
theorem zdb:∀ns:List Int,(zdq ns).Perm ns
 | []=>.refl _
 | n::ns=>(zgD n _).trans ((zdb ns).cons n)
theorem zmf {n:Int}:∀{ms:List Int},ms.Pairwise (·<=·)->(insZ n ms).Pairwise (·<=·)
 | [],_=>List.pairwise_singleton _ _
 | m::ms,h=>by
  rw[insZ];obtain ⟨h1,h2⟩:=List.pairwise_cons.mp h;split
  .rename_i hn;exact List.pairwise_cons.mpr ⟨fun a ha=>by
    rcases List.mem_cons.mp ha with rfl | ha
    .exact hn
    .exact Int.le_trans hn (h1 a ha),h⟩
  .rename_i hn;refine List.pairwise_cons.mpr ⟨fun a ha=>?_,zmf h2⟩;rcases List.mem_cons.mp ((zgD n ms).mem_iff.mp ha) with rfl | ha
   .omega
   .exact h1 a ha
theorem zga:∀ns:List Int,(zdq ns).Pairwise (·<=·)
 | []=>.nil
 | n::ns=>zmf (zga ns)
theorem zgK:∀{xs ys:List Int},xs.Perm ys->xs.Pairwise (·<=·)->ys.Pairwise (·<=·)->xs=ys
 | [],ys,p,_,_=>by rw[List.nil_perm.mp p]
 | x::xs,[],p,_,_=>by cases List.perm_nil.mp p
 | x::xs,y::ys,p,h,k=>by
  obtain ⟨h1,h2⟩:=List.pairwise_cons.mp h;obtain ⟨k1,k2⟩:=List.pairwise_cons.mp k;have e:x=y:=by
   have hx:x∈y::ys:=p.mem_iff.mp List.mem_cons_self;have hy:y∈x::xs:=p.mem_iff.mpr List.mem_cons_self;rcases List.mem_cons.mp hx with e | hx
   .exact e
   .rcases List.mem_cons.mp hy with e | hy
    .exact e.symm
    .have:=k1 x hx
     have:=h1 y hy
     omega
  subst e;rw[zgK (List.Perm.cons_inv p) h2 k2]
def zc5 (o:O):Option O:=match zsOf o with
 | some ns=>if ns.length < 64 then some (.l ((zdq ns).map fun i=>⇑i)) else none
 | none=>none
theorem zmJ:CallR X (.builtin "sorted") (rVs X.mg X.K (f1 zc5)):=cv1 zir fun x H Q hx__=>by
 obtain ⟨W,ox,As,z,o1,dm,hf,q⟩:=hx__;unfold zc5 at hf
 cases e:zsOf ox with
 | none=>rw[e] at hf;cases hf
 | some ns=>
  rw[e] at hf;dsimp only at hf
  by_cases hz:ns.length < 64
  .rw[if_pos hz] at hf;cases hf;refine ⟨x,_,ns,rfl,o1.plain (zji e),hz,fun l ms hl p1 p2=>?_⟩
   have:ms=zdq ns:=zgK (p1.trans (zdb ns).symm) p2 (zga ns)
   subst this;refine q _ _ _ _ (.newO hl) ?_
   have:=Ow.newL (mg:=X.mg) (K:=X.K) (W:=W) hl (Dns.ofInts (P:=W) (H:=H) (zdq ns))
   rw[List.map_map] at this;exact this
  .rw[if_neg hz] at hf;cases hf
def tyN:O->Option String
 | .d .none=>some "NoneType"
 | .d (.bool _)=>some "bool"
 | ⇑_=>some "int"
 | .d (.str _)=>some "str"
 | .d (.list _)=>some "list"
 | .d (.tuple _)=>some "tuple"
 | .l _=>some "list"
 | .t _=>some "tuple"
 | _=>none
def subT (T U:String):Bool:=T==U || (T=="bool"&&U=="int")
def fIsi (U:String) (o:O):Option O:=match tyN o with
 | some T=>some (.d (.bool (subT T U)))
 | none=>none
def zkH:O->Option O
 | ⇑i=>some ⇑(Builtin.Int.intBits i)
 | _=>none
theorem zo1 {o:Expr} {A:EF} {apos cpos:Pos} (ho:VR X E o A) (h:PE X 0014 (tBM0 X.K "int" 0022 (tR X.mg X.K E A))) :
  VR X E 0014 (e1 A zkH):=h.imp fun σ H Q h=>tR.mono (vr1 (X:=X) h) fun x H1 hx__=>by
  obtain ⟨W,ox,As,z,o1,dm,hf,q⟩:=hx__;unfold zkH at hf;split at hf
  .cases hf;rw[o1.int];exact ⟨rfl,_,rfl,rfl,q _ H1 W [] .refl ⇑_⟩
  .cases hf
end
section
variable (mg:Str->Option Value) (K:PySem.W.Frag) (E:XK) (L:List Nat)
def Held (σ σ':St):Prop:=σ'.length=σ.length/\∀i∈L,σ'[i]? = σ[i]?
def kS (D:Ends) (σ:St) (H:Hp) (W:Addr->Prop) (f:Fp):Rt->Prop
 | .bad=>False
 | .nx ρ'=>∀σ' H' W' f',Sl mg K H' W' σ' ρ' f'->Mv (Inn f) H W (Inn f') H' W'->Held L σ σ'->D.nx σ' H'
 | .br ρ'=>∀σ' H' W' f',Sl mg K H' W' σ' ρ' f'->Mv (Inn f) H W (Inn f') H' W'->Held L σ σ'->D.bk σ' H'
 | .ct ρ'=>∀σ' H' W' f',Sl mg K H' W' σ' ρ' f'->Mv (Inn f) H W (Inn f') H' W'->Held L σ σ'->D.ct σ' H'
 | .rt o ρ'=>∀v σ' H' W' f' B,Sl mg K H' W' σ' ρ' f'->Ow mg K H' W' v o B->B.Nodup->(∀x∈B,¬Inn f' x)->Mv (Inn f) H W 095 H' W'->Held L σ σ'->D.rt v H'
 | .ex c ρ'=>∀σ' H' W' f',Sl mg K H' W' σ' ρ' f'->Mv (Inn f) H W (Inn f') H' W'->Held L σ σ'->XW mg K E c H'
def tS (G:SF):TS:=fun D σ H=>∃W ρ f,Ok mg K H W σ ρ f/\kS mg K E L D σ H W f (G ρ)
end
abbrev VS (X:Cx) (E:XK) (L:List Nat) (st:Stmt) (G:SF):Prop:=PS X st (tS X.mg X.K E L G)
abbrev VSs (X:Cx) (E:XK) (L:List Nat) (st:List Stmt) (G:SF):Prop:=PSs X st (tS X.mg X.K E L G)
theorem PS.imp {X:Cx} {e:Stmt} {t t':TS} (h:PS X e t) (i:∀D σ H,t' D σ H->t D σ H):PS X e t':=fun pins s σ H D I q=>h pins s σ H D I (i D σ H q)
theorem PSs.imp {X:Cx} {e:List Stmt} {t t':TS} (h:PSs X e t) (i:∀D σ H,t' D σ H->t D σ H):PSs X e t':=fun pins s σ H D I q=>h pins s σ H D I (i D σ H q)
theorem Held.refl {L:List Nat} {σ:St}:Held L σ σ:=⟨rfl,fun _ _=>rfl⟩
theorem Held.trans {L:List Nat} {σ σ1 σ2:St} (a:Held L σ σ1) (b:Held L σ1 σ2):Held L σ σ2:=⟨b.1.trans a.1,fun i hi=>(b.2 i hi).trans (a.2 i hi)⟩
theorem tS.from {mg:Str->Option Value} {K:PySem.W.Frag} {E:XK} {L:List Nat} {G:SF} {D:Ends} {σ σ1:St} {H H1:Hp} {W W1:Addr->Prop} {ρ1:Rho} {f f1:Fp}
  (s1:Sl mg K H1 W1 σ1 ρ1 f1) (m1:Mv (Inn f) H W (Inn f1) H1 W1) (l1:Held L σ σ1)
  (q:kS mg K E L D σ H W f (G ρ1)):tS mg K E L G D σ1 H1:=by
 refine ⟨W1,ρ1,f1,.next s1 m1 fun _ z=>z, ?_⟩
 cases a:G ρ1 with
 | bad=>rw[a] at q;exact q
 | nx ρ'=>rw[a] at q;exact fun σ' H' W' f' s m l=>q σ' H' W' f' s (m1.trans m) (l1.trans l)
 | br ρ'=>rw[a] at q;exact fun σ' H' W' f' s m l=>q σ' H' W' f' s (m1.trans m) (l1.trans l)
 | ct ρ'=>rw[a] at q;exact fun σ' H' W' f' s m l=>q σ' H' W' f' s (m1.trans m) (l1.trans l)
 | rt o ρ'=>rw[a] at q;exact fun v σ' H' W' f' B s o nd ap m l=>q v σ' H' W' f' B s o nd ap (m1.trans m) (l1.trans l)
 | ex c ρ'=>rw[a] at q;exact fun σ' H' W' f' s m l=>q σ' H' W' f' s (m1.trans m) (l1.trans l)
def sNil:SF:=fun ρ=>.nx ρ
def sSeq (S T:SF):SF:=fun ρ=>match S ρ with
 | .nx ρ'=>T ρ'
 | r=>r
section
variable {X:Cx} {E:XK} {L:List Nat}
theorem zc3:VSs X E L [] sNil:=pss_nil.imp fun D σ H hx__=>by obtain ⟨W,ρ,f,ok,q⟩:=hx__;exact q σ H W f ok.s (.refl ok.sub ok.dom) .refl
theorem zaP {st:Stmt} {S:SF} (h:VS X E L st S):VSs X E L [st] S:=zpQ h
theorem zaj {st:Stmt} {rest:List Stmt} {S T:SF} (h1:VS X E L st S) (h2:VSs X E L rest T):VSs X E L (st::rest) (sSeq S T):=(znI h1 h2).imp fun D σ H hx__=>by
 obtain ⟨W,ρ,f,ok,q⟩:=hx__;refine ⟨W,ρ,f,ok, ?_⟩;unfold sSeq at q
 cases a:S ρ with
 | bad=>rw[a] at q;exact q
 | nx ρ1=>rw[a] at q;exact fun σ1 H1 W1 f1 s1 m1 l1=>tS.from s1 m1 l1 q
 | br ρ'=>rw[a] at q;exact q
 | ct ρ'=>rw[a] at q;exact q
 | rt o ρ'=>rw[a] at q;exact q
 | ex c ρ'=>rw[a] at q;exact q
def sBrk:SF:=fun ρ=>.br ρ
theorem znc {pos:Pos}:VS X E L (.Break pos) sBrk:=ps_break.imp fun D σ H hx__=>by obtain ⟨W,ρ,f,ok,q⟩:=hx__;exact q σ H W f ok.s (.refl ok.sub ok.dom) .refl
def zbd (A:EF):SF:=fun ρ=>match A ρ with
 | .bad=>.bad
 | .ok _ ρ' _=>.nx ρ'
 | .ex c ρ'=>.ex c ρ'
theorem zlF {e:Expr} {A:EF} {pos:Pos} (he:VR X E e A) (hs:swapsWith e none pos.line X.env=pure false:=by rfl):VS X E L (.Expr e pos) (zbd A):=(zqi he hs).imp fun D σ H hx__=>by
 obtain ⟨W,ρ,f,ok,q⟩:=hx__;refine ⟨W,ρ,f,ok, ?_⟩;unfold zbd at q
 cases a:A ρ with
 | bad=>rw[a] at q;exact q
 | ex c ρ'=>rw[a] at q;exact fun H' W' f' s m=>q σ H' W' f' s m .refl
 | ok r ρ' k=>rw[a] at q;exact fun v H' W' f' B s r n m k=>q σ H' W' f' s (m.narrow fun x hx=>.inl hx) .refl
def sRet (take:Rho->Rv->Option (O×Rho)) (A:EF):SF:=fun ρ=>match A ρ with
 | .bad=>.bad
 | .ok r ρ' _=>match take ρ' r with
  | some (o,ρ'')=>.rt o ρ''
  | none=>.bad
 | .ex c ρ'=>.ex c ρ'
def zii (take:Rho->Rv->Option (O×Rho)):Prop:=∀{mg:Str->Option Value} {K:PySem.W.Frag} {H:Hp} {W:Addr->Prop} {σ:St} {ρ ρ':Rho} {f:Fp} {r:Rv} {v:V} {B:List Addr} {o:O},Sl mg K H W σ ρ f->(∀x,Inn f x->W x)->RvOk mg K H W σ v r B->(∀x∈B,W x/\¬Inn f x)->take ρ r=some (o,ρ')->
  ∃W' f',Sl mg K H W' σ ρ' f'/\Gv W f W' f'/\∃B',Ow mg K H W' v o B'/\B'.Nodup/\∀x∈B',(x∈B\/Inn f x)/\W' x/\¬Inn f' x
theorem zdh:zii mov:=@ziC
theorem zaZ:zii coe:=fun s sb h hB e=>by
 obtain ⟨W',f',s',g,B',h1,h2,h3⟩:=zgB s sb h e;exact ⟨W',f',s',g,B',h1,h2,fun x hx=>⟨.inl (h3 x hx),(g.more x (hB x (h3 x hx)).1).resolve_left (hB x (h3 x hx)).2,fun z=>(hB x (h3 x hx)).2 (g.ours x z)⟩⟩
theorem zjU {take:Rho->Rv->Option (O×Rho)} (ht:zii take) {mg:Str->Option Value} {K:PySem.W.Frag} {A:EF} {σ:St} {H:Hp} {W:Addr->Prop} {ρ:Rho} {f:Fp} {R:V->Hp->Prop} (ok:Ok mg K H W σ ρ f)
  (h:match A ρ with
   | .bad=>False
   | .ex c ρ'=>∀H' W' f',Sl mg K H' W' σ ρ' f'->Mv (Inn f) H W (Inn f') H' W'->XW mg K E c H'
   | .ok r ρ1 q=>match take ρ1 r with
    | none=>False
    | some (o,ρ2)=>∀v H' W' f' As,Sl mg K H' W' σ ρ2 f'->Ow mg K H' W' v o As->As.Nodup->(∀x∈As,¬Inn f' x)->Mv (Inn f) H W 089 H' W'->R v H') :
  tR mg K E A σ H R:=by
 refine ⟨W,ρ,f,ok, ?_⟩
 cases a:A ρ with
 | bad=>rw[a] at h;exact h
 | ex c ρ'=>rw[a] at h;exact h
 | ok r ρ1 q=>
  rw[a] at h;intro v H1 W1 f1 B s1 r1 n1 m1 k1;dsimp only at h
  cases b:take ρ1 r with
  | none=>rw[b] at h;exact h.elim
  | some z=>
   obtain ⟨o,ρ2⟩:=z;rw[b] at h;obtain ⟨W2,f2,s2,g2,As,o2,nd2,in2⟩:=ht s1 (fun x hx=>m1.sub' x (.inl hx)) r1 (fun x hx=>⟨m1.sub' x (.inr hx),n1 x hx⟩) b;exact h v H1 W2 f2 As s2 o2 nd2 (fun x hx=>(in2 x hx).2.2) (m1.trans (g2.mv (fun x hx=>.inl hx) m1.sub' m1.dom' fun x hx=>⟨(in2 x hx).1.elim .inr .inl,(in2 x hx).2.1⟩))
theorem zc7 {take:Rho->Rv->Option (O×Rho)} {e:Expr} {A:EF} {pos:Pos} (ht:zii take) (he:VR X E e A):VS X E L (.Return (some e) pos) (sRet take A):=(zrs he).imp fun D σ H hx__=>by
 obtain ⟨W,ρ,f,ok,q⟩:=hx__;refine zjU ht ok ?_;unfold sRet at q
 cases a:A ρ with
 | bad=>rw[a] at q;exact q
 | ex c ρ'=>rw[a] at q;exact fun H' W' f' s m=>q σ H' W' f' s m .refl
 | ok r ρ' k=>
  rw[a] at q;dsimp only at q ⊢
  cases b:take ρ' r with
  | none=>rw[b] at q;exact q
  | some z=>obtain ⟨o,ρ''⟩:=z;rw[b] at q;exact fun v H' W' f' As s o nd ap m=>q v σ H' W' f' As s o nd ap m .refl
def ztQ:SF:=fun ρ=>.rt 042 ρ
def sIf (T:TF) (S U:SF):SF:=fun ρ=>match T ρ with
 | .bad=>.bad
 | .ok b ρ' _=>if b then S ρ' else U ρ'
 | .ex c ρ'=>.ex c ρ'
theorem zf2 {c:Expr} {a b:List Stmt} {T:TF} {S U:SF} {pos:Pos} (hc:VT X E c T) (ha:VSs X E L a S) (hb:VSs X E L b U):VS X E L (.If c a b pos) (sIf T S U):=(zu5 hc ha hb).imp fun D σ H hx__=>by
 obtain ⟨W,ρ,f,ok,q⟩:=hx__;refine ⟨W,ρ,f,ok, ?_⟩;unfold sIf at q
 cases e:T ρ with
 | bad=>rw[e] at q;exact q
 | ex c ρ'=>rw[e] at q;exact fun H' W' f' s m=>q σ H' W' f' s m .refl
 | ok b ρ1 k=>
  rw[e] at q;intro H1 W1 f1 s1 m1 k1
  cases b with
  | true=>exact tS.from s1 m1 .refl q
  | false=>exact tS.from s1 m1 .refl q
abbrev GF:=O->Rho->Option Rho
section
variable (mg:Str->Option Value) (K:PySem.W.Frag) (L:List Nat)
def tTg (G:GF):TG:=fun v σ H Q=>∃W ρ f o B ρ',Sl mg K H W σ ρ f/\Ow mg K H W v o B/\B.Nodup/\(∀x∈B,¬Inn f x)/\(∀x,Inn f x\/x∈B->W x)/\(∀x,W x->H x≠none)/\G o ρ=some ρ'/\
 ∀σ' f',Sl mg K H W σ' ρ' f'->(∀x,Inn f' x->Inn f x\/x∈B)->Held L σ σ'->Q σ' H
def tGs (G:List O->Rho->Option Rho):TGs:=fun vs σ H Q=>∃W ρ f os B ρ',Sl mg K H W σ ρ f/\Ows mg K H W vs os B/\B.Nodup/\(∀x∈B,¬Inn f x)/\(∀x,Inn f x\/x∈B->W x)/\(∀x,W x->H x≠none)/\G os ρ=some ρ'/\
 ∀σ' f',Sl mg K H W σ' ρ' f'->(∀x,Inn f' x->Inn f x\/x∈B)->Held L σ σ'->Q σ' H
end
abbrev VG (X:Cx) (L:List Nat) (e:Expr) (G:GF):Prop:=PG X e (tTg X.mg X.K L G)
abbrev VGs (X:Cx) (L:List Nat) (es:List Expr) (G:List O->Rho->Option Rho):Prop:=PGs X es (tGs X.mg X.K L G)
def gtN (i:Nat):GF:=fun o ρ=>if i < ρ.length then some (ρ.set i o) else none
theorem Sl.bind {mg:Str->Option Value} {K:PySem.W.Frag} {H:Hp} {W:Addr->Prop} {σ:St} {ρ:Rho} {f:Fp} {o:O} {v:V} {B:List Addr} (i:Nat) (s:Sl mg K H W σ ρ f) (h:Ow mg K H W v o B) (nd:B.Nodup) (ap:∀x∈B,¬Inn f x) (hi:i < ρ.length) :
  Sl mg K H W (σ.set i (some v)) (ρ.set i o) (fset f i B):=s.set hi h nd fun x hx j _ z=>ap x hx ⟨j,z⟩
theorem zgc {i:Nat} {σ:St} {x:Option V} (h:i∉L):Held L σ (σ.set i x):=⟨List.length_set,fun j hj=>List.getElem?_set_ne (fun z:i=j=>h (z ▸ hj))⟩
theorem zbb {i:Nat} {x:Str} {pos:Pos} (h:PG X (.Name x pos) (zkP i)) (hL:i∉L):VG X L (.Name x pos) (gtN i):=fun pins s σ H v u Q I r hx__=>by
 obtain ⟨W,ρ,f,o,B,ρ',sl,ow,nd,ap,sb,dm,e,q⟩:=hx__;refine h pins s σ H v u Q I r ?_;unfold gtN at e
 by_cases hi:i < ρ.length
 .rw[if_pos hi] at e;cases e;exact q _ _ (sl.bind i ow nd ap hi) (fun x hx=>hx.set) (zgc hL)
 .rw[if_neg hi] at e;cases e
def zaV:List O->Rho->Option Rho:=fun os ρ=>match os with | []=>some ρ | _=>none
def zaf (G:GF) (R:List O->Rho->Option Rho):List O->Rho->Option Rho:=fun os ρ=>match os with
 | o::os=>match G o ρ with
  | some ρ1=>R os ρ1
  | none=>none
 | []=>none
theorem zfG:VGs X L [] zaV:=fun pins s σ H vs us Q I r hx__=>by
 obtain ⟨W,ρ,f,os,B,ρ',sl,ow,nd,ap,sb,dm,e,q⟩:=hx__
 cases os with
 | nil=>cases ow;cases e;exact zpA pins s σ H [] us Q I r ⟨rfl,q σ f sl (fun x hx=>.inl hx) .refl⟩
 | cons o os=>cases e
theorem zcx {e:Expr} {es:List Expr} {G:GF} {R:List O->Rho->Option Rho} (h1:VG X L e G) (h2:VGs X L es R) (hs:(assignEach (e::es) X.env).map (·.2)=assign e X.env::(assignEach es X.env).map (·.2):=by rfl):VGs X L (e::es) (zaf G R):=
 fun pins s σ H vs us Q I r hx__=>by
  obtain ⟨W,ρ,f,os,B,ρ',sl,ow,nd,ap,sb,dm,e,q⟩:=hx__;refine znv h1 h2 hs pins s σ H vs us Q I r ?_;unfold zaf at e
  cases ow with
  | nil=>cases e
  | @cons v o vs os A C a b=>
   dsimp only at e
   cases z:G o ρ with
   | none=>rw[z] at e;cases e
   | some ρ1=>
    rw[z] at e;obtain ⟨nA,nC,dj⟩:=List.nodup_append.mp nd;refine ⟨v,vs,rfl,W,ρ,f,o,A,ρ1,sl,a,nA,fun x hx=>ap x 074,fun x hx=>sb x (hx.imp id (List.mem_append_left _)),dm,z,fun σ1 f1 sl1 in1 l1=>?_⟩;refine ⟨W,ρ1,f1,os,C,ρ',sl1,b,nC,fun x hx y=>?_,fun x hx=>?_,dm,e,fun σ2 f2 sl2 in2 l2=>q σ2 f2 sl2 (fun x hx=>?_) (l1.trans l2)⟩
    .rcases in1 x y with y | y
     .exact ap x 0011 y
     .exact dj x y x hx rfl
    .rcases hx with hx | hx
     .exact sb x ((in1 x hx).imp id (List.mem_append_left _))
     .exact sb x (.inr 0011)
    .rcases in2 x hx with hx | hx
     .exact (in1 x hx).imp id (List.mem_append_left _)
     .exact .inr 0011
def gtT (R:List O->Rho->Option Rho):GF:=fun o ρ=>match els o with
 | some (false,os)=>R os ρ
 | _=>none
theorem zg2 {es:List Expr} {k:Nat} {R:List O->Rho->Option Rho} {pos:Pos} (hc:X.calm=true) (h:VGs X L es R) (n:Nat) (hR:∀os ρ ρ',R os ρ=some ρ'->os.length=n)
  (hn:(assignEach es X.env).length=n:=by rfl) (hst:(assignEach es X.env).findIdx? (·.1)=none:=by rfl):VG X L (.Tuple es k pos) (gtT R):=fun pins s σ H v u Q I r hx__=>by
 obtain ⟨W,ρ,f,o,B,ρ',sl,ow,nd,ap,sb,dm,e,q⟩:=hx__;refine zsp hc h hn hst pins s σ H v u Q I r ?_;unfold gtT at e
 cases z:els o with
 | none=>rw[z] at e;cases e
 | some y=>
  obtain ⟨b,os⟩:=y;rw[z] at e
  cases b with
  | true=>cases e
  | false=>
   obtain ⟨a,vs,A,rfl,h2,h3,h4⟩:=ow.els z;exact ⟨a,vs,rfl,SqT.of h2,by rw[h3.length];exact hR os ρ ρ' e,W,ρ,f,os,A,ρ',sl,h3,nd.sublist h4,fun x hx=>ap x (h4.subset hx),fun x hx=>sb x (hx.imp id (fun z=>h4.subset z)),dm,e,fun σ' f' s' i' l'=>q σ' f' s' (fun x hx=>(i' x hx).imp id (fun z=>h4.subset z)) l'⟩
theorem zdj {os:List O} {ρ ρ':Rho} (h:zaV os ρ=some ρ'):os.length=0:=by
 unfold zaV at h;split at h
 .rfl
 .cases h
theorem za0 {G:GF} {R:List O->Rho->Option Rho} {n:Nat} (hR:∀os ρ ρ',R os ρ=some ρ'->os.length=n):∀os ρ ρ',zaf G R os ρ=some ρ'->os.length=n+1:=fun os ρ ρ' h=>by
 unfold zaf at h;split at h
 .split at h
  .rw[List.length_cons,hR _ _ _ h]
  .cases h
 .cases h
def sAsg (take:Rho->Rv->Option (O×Rho)) (A:EF) (G:GF):SF:=fun ρ=>match A ρ with
 | .bad=>.bad
 | .ok r ρ' _=>match take ρ' r with
  | some (o,ρ1)=>match G o ρ1 with
   | some ρ2=>.nx ρ2
   | none=>.bad
  | none=>.bad
 | .ex c ρ'=>.ex c ρ'
theorem zmp {take:Rho->Rv->Option (O×Rho)} (ht:zii take) {A:EF} {G:GF} {D:Ends} {σ:St} {H:Hp} (h:tS X.mg X.K E L (sAsg take A G) D σ H):tAsg (tR X.mg X.K E A) (tTg X.mg X.K L G) D σ H:=by
 obtain ⟨W,ρ,f,ok,q⟩:=h;refine zjU ht ok ?_;unfold sAsg at q
 cases a:A ρ with
 | bad=>rw[a] at q;exact q
 | ex c ρ'=>rw[a] at q;exact fun H' W' f' s m=>q σ H' W' f' s m .refl
 | ok r ρ' k=>
  rw[a] at q;dsimp only at q ⊢
  cases b:take ρ' r with
  | none=>rw[b] at q;exact q
  | some z=>
   obtain ⟨o,ρ''⟩:=z;rw[b] at q;dsimp only at q ⊢
   cases c:G o ρ'' with
   | none=>rw[c] at q;exact False.elim q
   | some ρ2=>
    rw[c] at q;exact fun v H' W' f' As s ow nd ap m=>⟨W',ρ'',f',o,As,ρ2,s,ow,nd,ap,m.sub',m.dom',c,fun σ' f2 s2 i2 l2=>q σ' H' W' f2 s2 (m.narrow i2) l2⟩
theorem zoC {take:Rho->Rv->Option (O×Rho)} {tg e:Expr} {A:EF} {G:GF} {pos:Pos} (ht:zii take) (he:VR X E e A) (hg:VG X L tg G) (hs:swapsWithSole [tg] e pos.line X.env=pure false:=by rfl) (hw:swappedStores [tg] e X.env=pure none:=by rfl)
  (h1:(assignEach [tg] X.env).map (·.2)=[assign tg X.env]:=by rfl):VS X E L (.Assign [tg] e pos) (sAsg take A G):=(zok he hg hs hw h1).imp fun D σ H h=>zmp ht h
theorem zjV {take:Rho->Rv->Option (O×Rho)} {i:Nat} {x:Str} {e:Expr} {A:EF} {pos pos':Pos} (ht:zii take) (hN:X.N.Nodup) (hi:X.N[i]? = some x) (hx:Loc X.env.scope x) (hL:i∉L) (he:VR X E e A) (hs:swapsWith e (some (.Name x pos')) pos.line X.env=pure false:=by rfl) (hf:X.fn x=true\/X.env.scope.names.lookup x=some .local:=by first | exact .inl rfl | exact .inr rfl | assumption) :
  VS X E L (.Assign [.Name x pos'] e pos) (sAsg take A (gtN i)):=(zsP hN hi hx he hs hf).imp fun D σ H h=>tR.mono (zmp ht h) fun v H1 hx__=>by
 obtain ⟨W,ρ,f,o,B,ρ',sl,ow,nd,ap,sb,dm,e,q⟩:=hx__;unfold gtN at e
 by_cases hi:i < ρ.length
 .rw[if_pos hi] at e;cases e;exact q _ _ (sl.bind i ow nd ap hi) (fun x hx=>hx.set) (zgc hL)
 .rw[if_neg hi] at e;cases e
def slI (ρ:Rho) (i:Nat):Option Int:=match ρ[i]? with
 | some o=>decI o
 | none=>none
theorem zsw {ρ:Rho} {i:Nat} {a:Int} (h:slI ρ i=some a):ρ[i]? = some ⇑a:=by
 unfold slI at h
 cases e:ρ[i]? with
 | none=>rw[e] at h;cases h
 | some o=>
  rw[e] at h;dsimp only at h;unfold decI at h;split at h
  .cases h;rfl
  .cases h
def sAug (i:Nat) (A:EF) (g:Int->Int->Int):SF:=fun ρ=>match slI ρ i with
 | some a=>match eSc decI A ρ with
  | .bad=>.bad
  | .ex c ρ'=>.ex c ρ'
  | .ok b ρ' _=>if i < ρ'.length then .nx (ρ'.set i ⇑(g a b)) else .bad
 | none=>.bad
theorem zoB {i:Nat} {x:Str} {e:Expr} {A:EF} {op:Operator} {g:Int->Int->Int} {pos pos':Pos} (hN:X.N.Nodup) (hi:X.N[i]? = some x) (hx:Loc X.env.scope x) (hL:i∉L) (he:VR X E e A) (ho:PIp X op (ipI g)) (hf:X.fn x=true\/X.env.scope.names.lookup x=some .local:=by first | exact .inl rfl | exact .inr rfl | assumption) :
  VS X E L (.AugAssign (.Name x pos') op e pos) (sAug i A g):=(zro hN hi hx he ho hf).imp fun D σ H hx__=>by
 obtain ⟨W,ρ,f,ok,q⟩:=hx__;unfold sAug at q
 cases ea:slI ρ i with
 | some a=>
  rw[ea] at q;dsimp only at q;rcases ok.s.sl i _ (zsw ea) with ⟨z,_⟩ | ⟨v,h1,h2⟩
  .cases z
  .refine ⟨v,h1,tR.mono (toI (E:=E) (X:=X) (B:=A) (Q:=fun b H1=>∃W' ρ' f',Sl X.mg X.K H1 W' σ ρ' f'/\Mv (Inn f) H W (Inn f') H1 W'/\i < ρ'.length/\∀σ' H' W' f',Sl X.mg X.K H' W' σ' (ρ'.set i ⇑(g a b)) f'->Mv (Inn f) H W (Inn f') H' W'->Held L σ σ'->D.nx σ' H') ⟨W,ρ,f,ok, ?_⟩) fun u H1 ⟨b,e,W',ρ',f',s1,m1,hl,q⟩=>⟨a,b,h2.int,e, ?_⟩⟩
   .cases c:eSc decI A ρ with
    | bad=>rw[c] at q;exact q
    | ex c ρ'=>rw[c] at q;exact fun H' W' f' s m=>q σ H' W' f' s m .refl
    | ok b ρ' k=>
     rw[c] at q;dsimp only at q;intro H' W' f' s m k
     by_cases hl:i < ρ'.length
     .rw[if_pos hl] at q;exact ⟨W',ρ',f',s,m,hl,q⟩
     .rw[if_neg hl] at q;exact False.elim q
   .exact q _ _ W' _ (s1.bind i (B:=[]) ⇑_ List.nodup_nil 096 hl) (m1.narrow fun x hx=>hx.set.resolve_right fun z=>nomatch z) (zgc hL)
 | none=>rw[ea] at q;exact False.elim q
end
section
variable {mg:Str->Option Value} {K:PySem.W.Frag} {H:Hp} {W:Addr->Prop} {σ:St} {ρ:Rho} {f:Fp}
theorem Sl.put {i:Nat} {p:List Nat} {oi:O} {os os':List O} {a:Addr} {u:V} {vs':List V} {A:List Addr} (s:Sl mg K H W σ ρ f) (sb:∀x,Inn f x->W x) (hi:ρ[i]? = some oi) (hu:σ[i]? = some (some u)) (hv:VAt H p u (.ref a)) (hs:sub p oi=some (.l os))
  (hA:∀x∈A,¬Inn f x)
  (h:∀vs B,Ows mg K H W vs os B->H a=some (.lst vs)->B.Nodup->a∉B->(∀x∈B,Inn f x)->Inn f a->∃C,Ows mg K (upd H a (.lst vs')) W vs' os' C/\C.Nodup/\a∉C/\∀x∈C,x∈B\/x∈A) :
  Inn f a/\∃f',Sl mg K (upd H a (.lst vs')) W σ (ρ.set i (put p (.l os') oi)) f'/\∀x,Inn f' x->Inn f x\/x∈A:=by
 rcases s.sl i oi hi with ⟨rfl,_⟩ | ⟨u',h1,ow⟩
 .cases p<;>cases hs
 .rw[hu] at h1;cases h1;have hin:a∈f i:=by
   obtain ⟨v',C,k1,k2,k3⟩:=ow.sub hs
   cases k1.inj hv
   cases k2 with
   | l _ _=>exact k3.subset List.mem_cons_self
  have ha:W a:=sb a ⟨i,hin⟩;obtain ⟨C,c1,c2,c3,_⟩:=ow.put (s.fam.nd i) hs hv ha (fun vs B x1 x2 x3 x4 x5=>h vs B x1 x2 x3 x4 (fun x hx=>⟨i,x5 x hx⟩) ⟨i,hin⟩) (fun x hx z=>hA x hx ⟨i,z⟩);have m:DMv H W (upd H a (.lst vs')) W:=fun c ob hc nc=>⟨by rw[zaD (fun z=>nc (by rw[z];exact ha))];exact hc,nc⟩
  refine ⟨⟨i,hin⟩,fset f i C,⟨fun j o e=>?_,fun j hj=>?_,by rw[List.length_set];exact s.len,s.fam.set c2 fun x hx j hj z=>?_⟩,fun x hx=>?_⟩
  .by_cases q:j=i
   .subst q;have hl:j < ρ.length:=(List.getElem?_eq_some_iff.mp hi).1;rw[List.getElem?_set_self hl] at e;cases e;exact .inr ⟨u,hu,by rw[zbk];exact c1⟩
   .rw[List.getElem?_set_ne (Ne.symm q)] at e;rw[zbE q];exact (s.sl j o e).imp id fun ⟨v,g1,g2⟩=>⟨v,g1,g2.on m fun x hx=>zaD fun z=>s.fam.ap j i q x hx (z ▸ hin)⟩
  .rw[List.length_set] at hj;have hl:i < ρ.length:=(List.getElem?_eq_some_iff.mp hi).1;rw[zbE ∅];exact s.no j hj
  .rcases c3 x hx with y | y
   .exact s.fam.ap i j (Ne.symm hj) x y z
   .exact hA x y ⟨j,z⟩
  .rcases hx.set with hx | hx
   .exact .inl hx
   .exact (c3 x hx).imp (fun z=>⟨i,z⟩) id
end
def zeI (ρ:Rho) (r:Rv) (h:List O->Option (List O)):Option Rho:=match r with
 | .own (.l os)=>(h os).map fun _=>ρ
 | .own _=>none
 | .at i p=>match ρ[i]? with
  | some oi=>match sub p oi with
   | some (.l os)=>match h os with
    | some os'=>some (ρ.set i (put p (.l os') oi))
    | none=>none
   | _=>none
  | none=>none
section
variable {mg:Str->Option Value} {K:PySem.W.Frag} {H:Hp} {W:Addr->Prop} {σ:St} {ρ ρ':Rho} {f:Fp}
theorem zj4 {r:Rv} {v:V} {C A:List Addr} {g:List O->Option (List O)} {hv:List V->List V} (s:Sl mg K H W σ ρ f) (sb:∀x,Inn f x\/x∈C\/x∈A->W x) (dm:∀x,W x->H x≠none) (hr:RvOk mg K H W σ v r C) (hC:∀x∈C,¬Inn f x) (hA:∀x∈A,¬Inn f x) (hCA:∀x∈C,x∉A) (e:zeI ρ r g=some ρ')
  (h:∀(H':Hp) vs os os' B,g os=some os'->DMv H W H' W->(∀x∈B,H' x=H x)->(∀x∈A,H' x=H x)->Ows mg K H W vs os B->B.Nodup->(∀x∈A,x∉B)->∃D,Ows mg K H' W (hv vs) os' D/\D.Nodup/\∀x∈D,x∈B\/x∈A) :
  ∃a vs os os',v=.ref a/\H a=some (.lst vs)/\g os=some os'/\vs.length=os.length/\(Inn f a\/a∈C)/\∃f',Sl mg K (upd H a (.lst (hv vs))) W σ ρ' f'/\∀x,Inn f' x->Inn f x\/x∈A:=by
 cases r with
 | own o=>
  cases o with
  | l os=>
   rw[zeI] at e
   cases e1:g os with
   | none=>rw[e1] at e;cases e
   | some os'=>
    rw[e1] at e;cases e
    cases hr.1 with
    | @l a vs _ As h1 h2=>
     have hw:W a:=sb a (.inr (.inl List.mem_cons_self));refine ⟨a,vs,os,os',rfl,h1,e1,h2.length,.inr List.mem_cons_self,f,s.on (fun c ob hc nc=>⟨by rw[zaD (fun z=>nc (by rw[z];exact hw))];exact hc,nc⟩) fun x hx=>zaD fun z=>hC a List.mem_cons_self (z ▸ hx),fun x hx=>.inl hx⟩
  | _=>cases e
 | «at» i p=>
  rw[zeI] at e
  cases e1:ρ[i]? with
  | none=>rw[e1] at e;cases e
  | some oi=>
   rw[e1] at e;dsimp only at e
   cases e2:sub p oi with
   | none=>rw[e2] at e;cases e
   | some n=>
    rw[e2] at e
    cases n with
    | l os=>
     dsimp only at e
     cases e3:g os with
     | none=>rw[e3] at e;cases e
     | some os'=>
      rw[e3] at e;cases e;obtain ⟨_,u,h1,h2⟩:=hr;rcases s.sl i oi e1 with ⟨rfl,_⟩ | ⟨u',g1,ow⟩
      .cases p<;>cases e2
      .rw[h1] at g1;cases g1;obtain ⟨w,D,k1,k2,k3⟩:=ow.sub e2
       cases k1.inj h2
       cases k2 with
       | @l a vs _ As hl ht=>
        have sb':∀x,Inn f x->W x:=fun x hx=>sb x (.inl hx)
        have hw:W a:=sb' a ⟨i,k3.subset List.mem_cons_self⟩;obtain ⟨hin,f',p1,p2⟩:=s.put (os':=os') (vs':=hv vs) (A:=A) sb' e1 h1 h2 e2 hA fun vs2 B o2 hvs nd na inB ina=>by
         rw[hl] at hvs;cases hvs;obtain ⟨D',d1,d2,d3⟩:=h (upd H a (.lst (hv vs))) vs os os' B e3 (fun c ob hc nc=>⟨by rw[zaD (fun z=>nc (by rw[z];exact hw))];exact hc,nc⟩) (fun x hx=>zaD fun z=>na (z ▸ hx)) (fun x hx=>zaD fun z=>hA x hx (z ▸ ina)) o2 nd fun x hx z=>hA x hx (inB x z)
         exact ⟨D',d1,d2,fun z=>(d3 a z).elim na fun y=>hA a y ina,d3⟩
        exact ⟨a,vs,os,os',rfl,hl,e3,ht.length,.inl hin,f',p1,p2⟩
    | _=>cases e
end
section
variable {X:Cx} {E:XK} {L:List Nat}
theorem twoT {mg:Str->Option Value} {K:PySem.W.Frag} {σ:St} {H:Hp} {A B:EF} {T:V->Hp->Prop} {R:V->V->Hp->Prop} {W:Addr->Prop} {ρ:Rho} {f:Fp} (ok:Ok mg K H W σ ρ f)
  (h:match A ρ with
   | .bad=>False
   | .ex c ρ'=>∀H' W' f',Sl mg K H' W' σ ρ' f'->Mv (Inn f) H W (Inn f') H' W'->XW mg K E c H'
   | .ok ra ρ1 q1=>(∀v H' W' f' C,Sl mg K H' W' σ ρ1 f'->RvOk mg K H' W' σ v ra C->T v H')/\match B ρ1 with
    | .bad=>False
    | .ex c ρ'=>∀H' W' f',Sl mg K H' W' σ ρ' f'->Mv (Inn f) H W (Inn f') H' W'->XW mg K E c H'
    | .ok rb ρ2 q2=>pok ρ1 q2 ra=true/\∀v u H' W' f' C D,Sl mg K H' W' σ ρ2 f'->RvOk mg K H' W' σ v ra C->RvOk mg K H' W' σ u rb D->(∀x∈C,¬Inn f' x)->(∀x∈D,¬Inn f' x)->(∀x∈C,x∉D)->
      Mv (Inn f) H W (fun x=>Inn f' x\/x∈C\/x∈D) H' W'->R v u H') :
  tR mg K E A σ H fun x H1=>T x H1/\tR mg K E B σ H1 fun y H2=>R x y H2:=by
 refine ⟨W,ρ,f,ok, ?_⟩
 cases a:A ρ with
 | bad=>rw[a] at h;exact h
 | ex c ρ'=>rw[a] at h;exact h
 | ok ra ρ1 q1=>
  rw[a] at h;intro v H1 W1 f1 C s1 r1 n1 m1 k1;have ok1:Ok mg K H1 W1 σ ρ1 f1:=⟨s1,fun x hx=>m1.sub' x (.inl hx),m1.dom'⟩;refine ⟨h.1 v H1 W1 f1 C s1 r1,W1,ρ1,f1,ok1, ?_⟩;have h:=h.2;have hC:∀x∈C,W1 x/\¬Inn f1 x:=fun x hx=>⟨m1.sub' x (.inr hx),n1 x hx⟩
  cases b:B ρ1 with
  | bad=>rw[b] at h;exact h
  | ex c ρ'=>
   rw[b] at h;exact fun H2 W2 f2 s2 m2=>h H2 W2 f2 s2 (m1.trans (m2.wide (fun x hx=>.inl hx) m1.sub'))
  | ok rb ρ2 q2=>
   rw[b] at h;obtain ⟨hp,h⟩:=h;intro u H2 W2 f2 D s2 r2 n2 m2 k2;have m2':Mv (fun x=>Inn f1 x\/x∈C) H1 W1 (fun x=>Inn f2 x\/x∈C\/x∈D) H2 W2:=
    ⟨fun b o e n=>m2.same b o e fun z=>n (.inl z),m2.less,fun x w=>(m2.more x w).imp .inl id,fun x w=>by
     rcases w with w | w | w
     .exact (m2.ours x (.inl w)).imp .inl id
     .exact .inl (.inr w)
     .exact (m2.ours x (.inr w)).imp .inl id,m1.sub',m2.dom,fun x w=>by
     rcases w with w | w | w
     .exact m2.sub' x (.inl w)
     .exact (m2.hand (hC x w).1 (hC x w).2).1
     .exact m2.sub' x (.inr w),m2.dom'⟩
   exact h v u H2 W2 f2 C D s2 (r1.on s1 hC m2 k2 hp) r2 (fun x hx z=>m2.apart (hC x hx).1 (hC x hx).2 (.inl z)) n2 (fun x hx z=>m2.apart (hC x hx).1 (hC x hx).2 (.inr z)) (m1.trans m2')
def isL (ρ:Rho) (r:Rv):Bool:=match vn ρ r with
 | some o=>match els o with
  | some (true,_)=>true
  | _=>false
 | none=>false
theorem zsr {mg:Str->Option Value} {K:PySem.W.Frag} {H:Hp} {W:Addr->Prop} {σ:St} {ρ:Rho} {f:Fp} {v:V} {r:Rv} {B:List Addr} (h:isL ρ r=true) (s:Sl mg K H W σ ρ f) (hr:RvOk mg K H W σ v r B):tyV K "list" v H:=by
 unfold isL at h
 cases e:vn ρ r with
 | none=>rw[e] at h;cases h
 | some o=>
  rw[e] at h;dsimp only at h;obtain ⟨a1,a2⟩:=zdB e;obtain ⟨C,ow,_⟩:=s.vw hr a1 a2
  cases e2:els o with
  | none=>rw[e2] at h;cases h
  | some z=>
   obtain ⟨k,os⟩:=z;rw[e2] at h
   cases k with
   | false=>cases h
   | true=>
    obtain ⟨a,vs,A,rfl,h2,h3,_⟩:=ow.els e2;exact .inl ⟨rfl,vs,SqL.of h2⟩
def eApp (C A:EF):EF:=fun ρ=>(C ρ).bind fun rc ρ1 q1=>if isL ρ1 rc then (A ρ1).bind fun ra ρ2 q2=>if pok ρ1 q2 rc then match coe ρ2 ra with
  | some (o,ρ3)=>match zeI ρ3 rc fun os=>if os.length < sizeLine then some (os++[o]) else none with
   | some ρ4=>.ok (.own 042) ρ4 false
   | none=>.bad
  | none=>.bad
 else .bad else .bad
theorem zq4 {c e:Expr} {C A:EF} {apos cpos:Pos} (hc:VR X E c C) (he:VR X E e A) (h:PE X (.Call (.Attribute c "append" apos) [e] [] cpos) (tBM X.K "list" zjj (tR X.mg X.K E C) (zhQ (tR X.mg X.K E A) tNil))):VR X E (.Call (.Attribute c "append" apos) [e] [] cpos) (eApp C A):=h.imp fun σ H Q hx__=>by
 obtain ⟨W,ρ,f,ok,q⟩:=hx__;refine twoT (T:=tyV X.K "list") ok ?_;unfold eApp at q
 cases a:C ρ with
 | bad=>rw[a] at q;exact q
 | ex c ρ'=>rw[a] at q;exact q
 | ok rc ρ1 q1=>
  rw[a] at q;dsimp only[Re.bind] at q ⊢
  by_cases hl:isL ρ1 rc=true
  .rw[if_pos hl] at q;refine ⟨fun v H' W' f' C s r=>zsr hl s r, ?_⟩
   cases b:A ρ1 with
   | bad=>rw[b] at q;exact q
   | ex c ρ'=>rw[b] at q;exact q
   | ok ra ρ2 q2=>
    rw[b] at q;dsimp only at q ⊢
    by_cases hp:pok ρ1 q2 rc=true
    .rw[if_pos hp] at q;refine ⟨hp,fun v u H' W' f' C D s r1 r2 n1 n2 n3 m=>?_⟩
     cases e1:coe ρ2 ra with
     | none=>rw[e1] at q;exact False.elim q
     | some z=>
      obtain ⟨o,ρ3⟩:=z;rw[e1] at q;dsimp only at q
      cases e2:zeI ρ3 rc fun os=>if os.length < sizeLine then some (os++[o]) else none with
      | none=>rw[e2] at q;exact False.elim q
      | some ρ4=>
       rw[e2] at q;obtain ⟨W3,f3,s3,g3,B,ow,nd,inB⟩:=zgB s (fun x hx=>m.sub' x (.inl hx)) r2 e1;have keep:∀x,(x∈C\/x∈B)->W3 x/\¬Inn f3 x:=fun x hx=>by
        have hx':x∈C\/x∈D:=hx.imp id (inB x);have nf:¬Inn f' x:=hx'.elim (n1 x) (n2 x);exact ⟨(g3.more x (m.sub' x (.inr hx'))).resolve_left nf,fun z=>nf (g3.ours x z)⟩
       obtain ⟨p,vs,os,os',rfl,h1,h2,h3,h4,f4,s4,in4⟩:=zj4 (hv:=fun vs=>vs++[u]) s3 (fun x hx=>hx.elim (g3.sub x) fun hx=>(keep x hx).1) (fun x hx=>m.dom' x (g3.less x hx)) (r1.weak g3.less) (fun x hx=>(keep x (.inl hx)).2) (fun x hx=>(keep x (.inr hx)).2) (fun x hx z=>n3 x hx (inB x z)) e2 (fun H2 vs os os' B' ho dm hB' hA ows ndB dj=>by
        by_cases hz:os.length < sizeLine
        .rw[if_pos hz] at ho;cases ho;refine ⟨B'++(B++[]),Ows.app (ows.on dm hB') (.cons (ow.on dm hA) .nil), ?_,fun x hx=>?_⟩
         .rw[List.append_nil];exact List.nodup_append.mpr ⟨ndB,nd,fun x hx y hy z=>dj y hy (z ▸ hx)⟩
         .rw[List.append_nil] at hx;exact List.mem_append.mp hx
        .rw[if_neg hz] at ho;cases ho)
       have hlen:vs.length < sizeLine:=by
        by_cases hz:os.length < sizeLine
        .rw[h3];exact hz
        .rw[if_neg hz] at h2;cases h2
       refine ⟨p,vs,u,rfl,rfl,h1,hlen,q .non _ W3 f4 [] s4 ⟨.d .non,List.nodup_nil⟩ 096 ?_ (fun z=>nomatch z)⟩;have mg3:Mv (fun x=>Inn f' x\/x∈C\/x∈D) H' W' (fun x=>Inn f3 x\/x∈C\/x∈B) H' W3:=
        ⟨fun _ _ h _=>h,fun x h=>.inl (g3.less x h),fun x h=>(g3.more x h).imp .inl id,fun x h=>.inl (h.imp (g3.ours x) fun z=>z.imp id (inB x)),m.sub',m.dom',fun x h=>h.elim (g3.sub x) fun z=>(keep x z).1,fun x h=>m.dom' x (g3.less x h)⟩
       refine ((m.trans mg3).trans (Mv.put (o:=.lst (vs++[u])) mg3.sub' mg3.dom' (h4.imp id .inl))).narrow fun x hx=>?_
       exact (in4 x (hx.resolve_right fun z=>nomatch z)).imp id .inr
    .rw[if_neg hp] at q;exact False.elim q
  .rw[if_neg hl] at q;exact False.elim q
def sSub (take:Rho->Rv->Option (O×Rho)) (A C B:EF):SF:=fun ρ=>match A ρ with
 | .bad=>.bad
 | .ex c ρ'=>.ex c ρ'
 | .ok r ρ' _=>match take ρ' r with
  | none=>.bad
  | some (o,ρ1)=>match C ρ1 with
   | .bad=>.bad
   | .ex c ρ'=>.ex c ρ'
   | .ok rc ρ2 _=>match eSc decI B ρ2 with
    | .bad=>.bad
    | .ex c ρ'=>.ex c ρ'
    | .ok k ρ3 q3=>if pok ρ2 q3 rc then match zeI ρ3 rc fun os=>(ixN os.length k).map fun j=>os.set j o with
      | some ρ4=>.nx ρ4
      | none=>.bad
     else .bad
theorem Ows.setAt {mg:Str->Option Value} {K:PySem.W.Frag} {H:Hp} {W:Addr->Prop}:∀{vs:List V} {os:List O} {As:List Addr} {k:Nat} {v:V} {o:O} {A:List Addr},Ows mg K H W vs os As->Ow mg K H W v o A->As.Nodup->A.Nodup->(∀x∈A,x∉As)->∃D,Ows mg K H W (vs.set k v) (os.set k o) D/\D.Nodup/\∀x∈D,x∈As\/x∈A
 | _,_,_,k,_,_,_,.nil,_,_,_,_=>⟨[],.nil,List.nodup_nil,fun _ z=>nomatch z⟩
 | _,_,_,0,v,o,A,.cons (A:=B) (B:=C) a b,h,nd,nA,dj=>by
  obtain ⟨n1,n2,n3⟩:=List.nodup_append.mp nd;refine ⟨A++C,.cons h b,List.nodup_append.mpr ⟨nA,n2,fun x hx y hy z=>dj x hx (List.mem_append_right _ (z ▸ hy))⟩,fun x hx=>?_⟩;exact (List.mem_append.mp hx).elim .inr fun z=>.inl (List.mem_append_right _ z)
 | _,_,_,k+1,v,o,A,.cons (A:=B) (B:=C) a b,h,nd,nA,dj=>by
  obtain ⟨n1,n2,n3⟩:=List.nodup_append.mp nd;obtain ⟨D,d1,d2,d3⟩:=Ows.setAt (k:=k) b h n2 nA fun x hx z=>dj x hx (List.mem_append_right _ z)
  refine ⟨B++D,.cons a d1,List.nodup_append.mpr ⟨n1,d2,fun x hx y hy z=>?_⟩,fun x hx=>?_⟩
  .subst z;rcases d3 x hy with q | q
   .exact n3 x hx x q rfl
   .exact dj x q 074
  .rcases List.mem_append.mp hx with q | q
   .exact .inl (List.mem_append_left _ q)
   .exact (d3 x q).imp (List.mem_append_right _) id
theorem zrg {take:Rho->Rv->Option (O×Rho)} {c b e:Expr} {A C B:EF} {pos pos':Pos} (ht:zii take) (he:VR X E e A) (hc:VR X E c C) (hb:VR X E b B)
  (hs:swapsWithSole [.Subscript c b pos'] e pos.line X.env=pure false:=by rfl) (hw:swappedStores [.Subscript c b pos'] e X.env=pure none:=by rfl)
  (h1:(assignEach [.Subscript c b pos'] X.env).map (·.2)=[assign (.Subscript c b pos') X.env]:=by rfl)
  (ha:∀v,assign (.Subscript c b pos') X.env v=(do
   let ov <-holding [v] (eval c X.env)
   let iv <-holding [v,ov] (eval b X.env)
   standAt pos'
   holding [v,ov,iv] (setItem ov iv v)
   release [v,ov,iv] []):=by intro _;rfl):VS X E L (.Assign [.Subscript c b pos'] e pos) (sSub take A C B):=(zok he (zso hc hb zn7 ha) hs hw h1).imp fun D σ H hx__=>by
 obtain ⟨W,ρ,f,ok,q⟩:=hx__;refine zjU ht ok ?_;unfold sSub at q
 cases a:A ρ with
 | bad=>rw[a] at q;exact q
 | ex c ρ'=>rw[a] at q;exact fun H' W' f' s m=>q σ H' W' f' s m .refl
 | ok r ρ' k0=>
  rw[a] at q;dsimp only at q ⊢
  cases b0:take ρ' r with
  | none=>rw[b0] at q;exact q
  | some z=>
   obtain ⟨o,ρ1⟩:=z;rw[b0] at q;dsimp only at q ⊢;intro v H1 W1 f1 As s1 ow nd ap m1;have ok1:Ok X.mg X.K H1 W1 σ ρ1 f1:=⟨s1,fun x hx=>m1.sub' x (.inl hx),m1.dom'⟩;have hAs:∀x∈As,W1 x/\¬Inn f1 x:=fun x hx=>⟨m1.sub' x (.inr hx),ap x hx⟩
   have wid:∀{H':Hp} {W':Addr->Prop} {f':Fp},Mv (Inn f1) H1 W1 (Inn f') H' W'->Mv (Inn f) H W (Inn f') H' W':=fun m=>m1.trans (m.wide (fun x hx=>.inl hx) m1.sub')
   refine tR.mono (twoG (G:=eSc decI B) (R:=fun x k H2=>zsF x (.int k) v H2 fun H3=>D.nx σ H3) ok1 ?_) fun x H2 h2=>tR.mono (toI h2) fun y H3 ⟨k,e,h3⟩=>by rw[e];exact h3
   cases c0:C ρ1 with
   | bad=>rw[c0] at q;exact q
   | ex c ρ'=>rw[c0] at q;exact fun H' W' f' s m=>q σ H' W' f' s (wid m) .refl
   | ok rc ρ2 q2=>
    rw[c0] at q;dsimp only at q ⊢
    cases d0:eSc decI B ρ2 with
    | bad=>rw[d0] at q;exact q
    | ex c ρ'=>rw[d0] at q;exact fun H' W' f' s m=>q σ H' W' f' s (wid m) .refl
    | ok k ρ3 q3=>
     rw[d0] at q;dsimp only at q ⊢
     by_cases hp:pok ρ2 q3 rc=true
     .rw[if_pos hp] at q;refine ⟨hp,fun u H2 W2 f2 Cc s2 r2 n2 m2 _=>?_⟩
      cases e2:zeI ρ3 rc fun os=>(ixN os.length k).map fun j=>os.set j o with
      | none=>rw[e2] at q;exact False.elim q
      | some ρ4=>
       rw[e2] at q;have hAs2:∀x∈As,W2 x/\H2 x=H1 x:=fun x hx=>m2.hand (hAs x hx).1 (hAs x hx).2
       have ap2:∀x∈As,¬(Inn f2 x\/x∈Cc):=fun x hx=>m2.apart (hAs x hx).1 (hAs x hx).2
       have ow2:Ow X.mg X.K H2 W2 v o As:=ow.on m2.d fun x hx=>(hAs2 x hx).2
       have pick:∀{os os':List O},(ixN os.length k).map (fun j=>os.set j o)=some os'->∃j,ixN os.length k=some j/\os'=os.set j o:=fun {os os'} h=>by
        cases e:ixN os.length k with
        | none=>rw[e] at h;cases h
        | some j=>rw[e] at h;cases h;exact ⟨j,rfl,rfl⟩
       obtain ⟨p,vs,os,os',rfl,h1,h2,h3,h4,f4,s4,in4⟩:=zj4 (A:=As) (hv:=fun vs=>vs.set ((ixN vs.length k).getD 0) v) s2 (fun x hx=>hx.elim (fun z=>m2.sub' x (.inl z)) fun hx=>hx.elim (fun z=>m2.sub' x (.inr z)) fun z=>(hAs2 x z).1) m2.dom' r2 n2 (fun x hx z=>ap2 x hx (.inl z)) (fun x hx z=>ap2 x z (.inr hx)) e2 (fun H3 vs os os' B' ho dm hB' hA ows ndB dj=>by
        obtain ⟨j,e,rfl⟩:=pick ho;rw[ows.length,e];exact Ows.setAt (ows.on dm hB') (ow2.on dm hA) ndB nd dj)
       obtain ⟨j,e,rfl⟩:=pick h2;rw[h3,e] at s4;refine ⟨p,vs,k,j,rfl,rfl,h1,by rw[h3];exact e,q σ _ W2 f4 s4 ?_ .refl⟩;have mw:Mv (fun x=>Inn f1 x\/x∈As) H1 W1 (fun x=>(Inn f2 x\/x∈Cc)\/x∈As) H2 W2:=
        ⟨fun b o e n=>m2.same b o e fun z=>n (.inl z),m2.less,fun x w=>(m2.more x w).imp .inl id,fun x w=>w.elim (fun w=>(m2.ours x w).imp .inl id) fun w=>.inl (.inr w),m1.sub',m2.dom,fun x w=>w.elim (m2.sub' x) fun w=>(hAs2 x w).1,m2.dom'⟩
       exact ((m1.trans mw).trans (Mv.put (o:=.lst (vs.set j v)) mw.sub' mw.dom' (.inl h4))).narrow fun x hx=>(in4 x hx).imp .inl id
     .rw[if_neg hp] at q;exact False.elim q
end
def Aft (mg:Str->Option Value) (K:PySem.W.Frag) (E:XK) (L:List Nat) (D:Ends) (σ:St) (H:Hp) (W:Addr->Prop) (f:Fp):Rt->Prop
 | .bad=>False
 | .nx ρ'=>∀σ' H' W' f',Sl mg K H' W' σ' ρ' f'->Mv (Inn f) H W (Inn f') H' W'->Held L σ σ'->D.nx σ' H'
 | .br ρ'=>∀σ' H' W' f',Sl mg K H' W' σ' ρ' f'->Mv (Inn f) H W (Inn f') H' W'->Held L σ σ'->D.bk σ' H'
 | .ct ρ'=>∀σ' H' W' f',Sl mg K H' W' σ' ρ' f'->Mv (Inn f) H W (Inn f') H' W'->Held L σ σ'->D.ct σ' H'
 | .rt o ρ'=>∀v σ' H' W' f' B,Sl mg K H' W' σ' ρ' f'->Ow mg K H' W' v o B->B.Nodup->(∀x∈B,¬Inn f' x)->Mv (Inn f) H W 095 H' W'->Held L σ σ'->D.rt v H'
 | .ex c ρ'=>∀σ' H' W' f',Sl mg K H' W' σ' ρ' f'->Mv (Inn f) H W (Inn f') H' W'->Held L σ σ'->XW mg K E c H'
def forF (G:GF) (S:SF):List O->Rho->Rt
 | [],ρ=>.nx ρ
 | x::xs,ρ=>match G x ρ with
  | none=>.bad
  | some ρ1=>match S ρ1 with
   | .nx ρ2=>forF G S xs ρ2
   | .ct ρ2=>forF G S xs ρ2
   | .br ρ2=>.nx ρ2
   | r=>r
section
variable {mg:Str->Option Value} {K:PySem.W.Frag} {E:XK} {L:List Nat}
theorem tS.aft {G:SF} {D:Ends} {σ:St} {H:Hp} (h:tS mg K E L G D σ H):∃W ρ f,Ok mg K H W σ ρ f/\Aft mg K E L D σ H W f (G ρ):=by
 obtain ⟨W,ρ,f,ok,q⟩:=h;refine ⟨W,ρ,f,ok, ?_⟩
 cases a:G ρ<;>rw[a] at q<;>exact q
theorem tS.mk {G:SF} {D:Ends} {σ:St} {H:Hp} {W:Addr->Prop} {ρ:Rho} {f:Fp} (ok:Ok mg K H W σ ρ f) (q:Aft mg K E L D σ H W f (G ρ)):tS mg K E L G D σ H:=by
 refine ⟨W,ρ,f,ok, ?_⟩
 cases a:G ρ<;>rw[a] at q<;>exact q
theorem Aft.step {D:Ends} {σ σ1:St} {H H1:Hp} {W W1:Addr->Prop} {f f1:Fp} {r:Rt} (q:Aft mg K E L D σ H W f r) (m1:Mv (Inn f) H W (Inn f1) H1 W1) (l1:Held L σ σ1):Aft mg K E L D σ1 H1 W1 f1 r:=by
 cases r with
 | bad=>exact q
 | nx ρ'=>exact fun σ' H' W' f' s m l=>q σ' H' W' f' s (m1.trans m) (l1.trans l)
 | br ρ'=>exact fun σ' H' W' f' s m l=>q σ' H' W' f' s (m1.trans m) (l1.trans l)
 | ct ρ'=>exact fun σ' H' W' f' s m l=>q σ' H' W' f' s (m1.trans m) (l1.trans l)
 | rt o ρ'=>exact fun v σ' H' W' f' B s o nd ap m l=>q v σ' H' W' f' B s o nd ap (m1.trans m) (l1.trans l)
 | ex c ρ'=>exact fun σ' H' W' f' s m l=>q σ' H' W' f' s (m1.trans m) (l1.trans l)
theorem zf8 {J:It} {items:List O} {G:GF} {S:SF} {D:Ends} {σ:St} {H1:Hp} {W1:Addr->Prop} {ρ1:Rho} {f1:Fp} (ok:Ok mg K H1 W1 σ ρ1 f1)
  (go:∀i H W',(∃A',Mv (Inn f1) H1 W1 A' H W')->i < items.length->J.go i H) (stop:∀H W',(∃A',Mv (Inn f1) H1 W1 A' H W')->J.stop items.length H)
  (yl:∀i H W' x H',(∃A',Mv (Inn f1) H1 W1 A' H W')->(∀x,W' x->H x≠none)->i < items.length->J.yld i H x H'->Gr H W' [] H' W'/\∃o,items[i]? = some o/\Ow mg K H' W' x o [])
  (q:Aft mg K E L D σ H1 W1 f1 (forF G S items ρ1)) :
  ∃W:Nat->Nat->St->Hp->Prop,(∃m,W 0 m σ H1)/\∀i m σ H,W i m σ H->
   (J.stop i H/\D.nx σ H)\/(J.go i H/\∃N:St->Hp->Prop,(∀σ' H',N σ' H'->∃m',m' < m/\W (i+1) m' σ' H')/\∀x H',J.yld i H x H'->tTg mg K L G x σ H' fun σ2 H2=>tS mg K E L S { D with nx:=N,ct:=N,bk:=D.nx } σ2 H2):=by
 let Pv:Nat->St->Hp->Prop:=fun i σ' H'=>∃W' ρ' f',Sl mg K H' W' σ' ρ' f'/\Mv (Inn f1) H1 W1 (Inn f') H' W'/\Held L σ σ'/\Aft mg K E L D σ H1 W1 f1 (forF G S (items.drop i) ρ')
 refine ⟨fun i m σ' H'=>m=items.length - i/\i<=items.length/\Pv i σ' H',⟨items.length,by simp,Nat.zero_le _,W1,ρ1,f1,ok.s,.refl ok.sub ok.dom,.refl,q⟩, ?_⟩
 rintro i m σ' H' ⟨rfl,hi,W',ρ',f',s',m',l',q'⟩
 by_cases hlt:i < items.length
 .refine .inr ⟨go i H' W' ⟨_,m'⟩ hlt,Pv (i+1),fun σ2 H2 p2=>⟨items.length - (i+1),by omega,rfl,hlt,p2⟩,fun x H2 y=>?_⟩;obtain ⟨g,o,eo,ow⟩:=yl i H' W' x H2 ⟨_,m'⟩ m'.dom' hlt y;have ed:items.drop i=o::items.drop (i+1):=by
   rw[List.drop_eq_getElem_cons hlt];rw[List.getElem?_eq_getElem hlt] at eo;cases eo;rfl
  rw[ed,forF] at q'
  cases e1:G o ρ' with
  | none=>rw[e1] at q';exact q'.elim
  | some ρ2=>
   rw[e1] at q';dsimp only at q';have s2:Sl mg K H2 W' σ' ρ' f':=s'.on g.d fun x hx=>g.kept m'.dom' (m'.sub' x hx)
   have m2:Mv (Inn f1) H1 W1 (Inn f') H2 W':=(m'.trans (g.mv m'.sub' m'.dom')).narrow fun x hx=>.inl hx
   refine ⟨W',ρ',f',o,[],ρ2,s2,ow,List.nodup_nil,fun x z=>(nomatch z),fun x hx=>m2.sub' x (hx.resolve_right fun z=>nomatch z),m2.dom',e1,fun σ3 f3 s3 i3 l3=>?_⟩;have m3:Mv (Inn f1) H1 W1 (Inn f3) H2 W':=m2.narrow fun x hx=>(i3 x hx).resolve_right fun z=>nomatch z
   refine tS.mk (.next s3 m3 fun _ z=>z) ?_
   cases e2:S ρ2 with
   | bad=>rw[e2] at q';exact q'
   | nx ρ3=>rw[e2] at q';exact fun σ4 H4 W4 f4 s4 m4 l4=>⟨W4,ρ3,f4,s4,m3.trans m4,(l'.trans l3).trans l4,q'⟩
   | ct ρ3=>rw[e2] at q';exact fun σ4 H4 W4 f4 s4 m4 l4=>⟨W4,ρ3,f4,s4,m3.trans m4,(l'.trans l3).trans l4,q'⟩
   | br ρ3=>rw[e2] at q';exact fun σ4 H4 W4 f4 s4 m4 l4=>q' σ4 H4 W4 f4 s4 (m3.trans m4) ((l'.trans l3).trans l4)
   | rt o ρ3=>rw[e2] at q';exact fun v σ4 H4 W4 f4 B s4 o nd ap m4 l4=>q' v σ4 H4 W4 f4 B s4 o nd ap (m3.trans m4) ((l'.trans l3).trans l4)
   | ex c ρ3=>rw[e2] at q';exact fun σ4 H4 W4 f4 s4 m4 l4=>q' σ4 H4 W4 f4 s4 (m3.trans m4) ((l'.trans l3).trans l4)
 .have e:i=items.length:=by omega
  subst e;rw[List.drop_length] at q';exact .inl ⟨stop H' W' ⟨_,m'⟩,q' σ' H' W' f' s' m' l'⟩
end
def sFor (I:Rho->Re (List O)) (G:GF) (S:SF):SF:=fun ρ=>match I ρ with
 | .bad=>.bad
 | .ex c ρ'=>.ex c ρ'
 | .ok items ρ' _=>forF G S items ρ'
def rngO (lo:Int) (n:Nat):List O:=(List.range n).map fun (k:Nat)=>⇑(lo+k)
def okR (j:Int):Bool:=decide (-4611686018427387904<=j/\j < 4611686018427387904)
def itR1 (A:EF):Rho->Re (List O):=fun ρ=>(eSc decI A ρ).bind fun j ρ1 q=>if okR j then .ok (rngO 0 j.toNat) ρ1 q else .bad
def zcy:Nat->List PyData->List O
 | _,[]=>[]
 | k,d::ds=>.d (.tuple [.int k,d])::zcy (k+1) ds
def itE (A:EF):Rho->Re (List O):=fun ρ=>(A ρ).bind fun r ρ1 q=>match coe ρ1 r with
 | some (o,ρ2)=>match fz o with
  | some (.list ds)=>.ok (zcy 0 ds) ρ2 q
  | _=>.bad
 | none=>.bad
theorem zcR:∀(k:Nat) (ds:List PyData),(zcy k ds).length=ds.length
 | _,[]=>rfl
 | k,d::ds=>by simp[zcy,zcR]
theorem zcT:∀(k:Nat) (ds:List PyData) (i:Nat),(zcy k ds)[i]? = (ds[i]?).map fun d=>O.d (.tuple [.int ((k+i:Nat):Int),d])
 | _,[],i=>by simp[zcy]
 | k,d::ds,0=>by simp[zcy]
 | k,d::ds,i+1=>by
  rw[zcy,List.getElem?_cons_succ,zcT (k+1) ds i,List.getElem?_cons_succ]
  congr 2
  funext d
  rw[show k+1+i=k+(i+1) by omega]
section
variable {X:Cx} {E:XK} {L:List Nat}
theorem zk7 {mk:List PyData->List O} {A:EF} {σ:St} {H:Hp} {W:Addr->Prop} {ρ:Rho} {f:Fp} {T:List O->SF} {D:Ends} {R:V->Hp->Prop} (ok:Ok X.mg X.K H W σ ρ f)
  (q:Aft X.mg X.K E L D σ H W f (match ((A ρ).bind fun r ρ1 q=>match coe ρ1 r with
    | some (o,ρ2)=>match fz o with
     | some (.list ds)=>Re.ok (mk ds) ρ2 q
     | _=>.bad
    | none=>.bad:Re (List O)) with
   | .bad=>.bad
   | .ex c ρ'=>.ex c ρ'
   | .ok items ρ' _=>T items ρ'))
  (h:∀a xs ds H' W' f' ρ',Sl X.mg X.K H' W' σ ρ' f'->Mv (Inn f) H W (Inn f') H' W'->H' a=some 098->¬W' a->Dns H' W' xs ds->Aft X.mg X.K E L D σ H W f (T (mk ds) ρ')->R (.ref a) H') :
  tR X.mg X.K E A σ H R:=by
 refine zjU zaZ ok ?_
 cases a:A ρ with
 | bad=>rw[a] at q;exact q
 | ex c ρ'=>rw[a] at q;exact fun H' W' f' s m=>q σ H' W' f' s m .refl
 | ok r ρ1 k=>
  rw[a] at q;dsimp only[Re.bind] at q ⊢
  cases b:coe ρ1 r with
  | none=>rw[b] at q;exact q
  | some z=>
   obtain ⟨o,ρ2⟩:=z;rw[b] at q;dsimp only at q ⊢;intro v H' W' f' As s ow nd ap m
   cases c:fz o with
   | none=>rw[c] at q;exact False.elim q
   | some x=>
    rw[c] at q
    cases x with
    | list ds=>
     have dn:Dn H' (fun x=>W' x/\x∉As) v 050:=ow.dn (fun _ z=>z.1) c fun x hx z=>z.2 hx
     cases dn with
     | @lst a xs _ n1 h1 t1=>
      refine h a xs ds H' (fun x=>W' x/\x∉As) f' ρ2 (s.on (DMv.weak fun _ z=>z.1) fun _ _=>rfl) ⟨m.same,fun x z=>m.less x z.1,fun x w=>?_,fun x hx=>m.ours x (.inl hx),m.sub,m.dom,fun x hx=>⟨m.sub' x (.inl hx),fun z=>ap x z hx⟩,fun x z=>m.dom' x z.1⟩ h1 n1 t1 q;rcases m.more x w with z | z
      .exact .inl z
      .by_cases y:x∈As
       .exact (m.ours x (.inr y)).imp id fun z=>absurd z (m.dom x w)
       .exact .inr ⟨z,y⟩
    | _=>exact False.elim q
theorem zjd {elts:List Expr} {kk:Nat} {tp:Pos} {e:Expr} {body:List Stmt} {A:EF} {G:GF} {S:SF} {p cpos pos:Pos} (hp:PassesOwn 000 X.A X.env X.xe) (hc:X.calm=true) (hgl:Gl X "enumerate") (hm:X.mg "enumerate"=none) (hi:VR X E e A) (hg:VG X L (.Tuple elts kk tp) G) (hb:VSs X E L body S)
  (hst:starEach [e] X.env=[034]:=by rfl)
  (hs:∀x,foldedSetIterable (.Call (.Name "enumerate" p) [e] [] cpos) X.env x=pure x:=by intro _;rfl):VS X E L (.For (.Tuple elts kk tp) (.Call (.Name "enumerate" p) [e] [] cpos) body [] pos) (sFor (itE A) G S):=(zjK hp hc (pi_E hgl hm (zdW hi ze4 hst) hst) hg hb hs).imp fun D σ H h=>by
 obtain ⟨W,ρ,f,ok,q⟩:=h.aft;refine zk7 (mk:=fun ds=>zcy 0 ds) (T:=fun items=>forF G S items) ok q fun a xs ds H' W' f' ρ' s m ha na dn q=>⟨a,xs,rfl,ha, ?_⟩
 refine zf8 (items:=zcy 0 ds) (.next s m fun _ z=>z) (fun i H2 W2 ⟨_,mm⟩ hi=>?_) (fun H2 W2 ⟨_,mm⟩=>?_) (fun i H2 W2 x H3 ⟨_,mm⟩ dd hi y=>?_) (q.step m .refl)
 .rw[zcR,<-dn.length] at hi;exact ⟨xs,xs[i],(mm.d a _ ha na).1,by simp[hi]⟩
 .exact ⟨xs,(mm.d a _ ha na).1,by rw[zcR,dn.length];exact Nat.le_refl _⟩
 .obtain ⟨t,z,rfl,ht,rfl,y⟩:=y;have hx:=y xs (mm.d a _ ha na).1;obtain ⟨d,e1,e2⟩:=dn.getV hx;have g:Gr H2 W2 [] (upd H2 t (.tup [.int i,z])) W2:=.new ht;exact ⟨g,_,by rw[zcT,e1];rfl,.d (.tup (fun w=>dd t w ht) zbu (.cons (by rw[Nat.zero_add];exact .int _) (.cons ((e2.on mm.d).on g.d) .nil)))⟩
theorem zhu {tg a:Expr} {body:List Stmt} {A:EF} {G:GF} {S:SF} {p cpos pos:Pos} (hp:PassesOwn 000 X.A X.env X.xe) (hc:X.calm=true) (hgl:Gl X "range") (hm:X.mg "range"=none) (ha:VR X E a A) (hg:VG X L tg G) (hb:VSs X E L body S)
  (hst:starEach [a] X.env=[(false,eval a X.env)]:=by rfl)
  (hs:∀x,foldedSetIterable (.Call (.Name "range" p) [a] [] cpos) X.env x=pure x:=by intro _;rfl):VS X E L (.For tg (.Call (.Name "range" p) [a] [] cpos) body [] pos) (sFor (itR1 A) G S):=(zjK hp hc (zgH hgl hm (zdW ha ze4 hst) hst) hg hb hs).imp fun D σ H h=>by
 obtain ⟨W,ρ,f,ok,q⟩:=h.aft;refine tR.mono (toI (X:=X) (E:=E) (B:=A) (Q:=fun j H1=>okR j=true/\∃W1 ρ1 f1,Sl X.mg X.K H1 W1 σ ρ1 f1/\Mv (Inn f) H W (Inn f1) H1 W1/\Aft X.mg X.K E L D σ H W f (forF G S (rngO 0 j.toNat) ρ1)) ⟨W,ρ,f,ok, ?_⟩) fun v H1 hx1=>?_
 .unfold sFor itR1 at q
  cases c:eSc decI A ρ with
  | bad=>rw[c] at q;exact q
  | ex c ρ'=>rw[c] at q;exact fun H' W' f' s m=>q σ H' W' f' s m .refl
  | ok j ρ1 k=>
   rw[c] at q;dsimp only[Re.bind] at q;intro H1 W1 f1 s m _
   by_cases hr:okR j=true
   .rw[if_pos hr] at q;exact ⟨hr,W1,ρ1,f1,s,m,q⟩
   .rw[if_neg hr] at q;exact False.elim q
 .obtain ⟨j,e,hr,W1,ρ1,f1,s,m,q⟩:=hx1;have hr':=of_decide_eq_true hr;refine ⟨j,by rw[e],hr'.1,hr'.2,zf8 (items:=rngO 0 j.toNat) (.next s m fun _ z=>z) (fun i H2 W2 ⟨_,mm⟩ hi=>?_) (fun H2 W2 ⟨_,mm⟩=>?_) (fun i H2 W2 x H3 ⟨_,mm⟩ dd hi y=>?_) (q.step m .refl)⟩
  .show i < j.toNat;simpa [rngO] using hi
  .show j.toNat<=_;simp[rngO]
  .obtain ⟨rfl,rfl⟩:=y;have hi':i < j.toNat:=by simpa [rngO] using hi
   exact ⟨.refl,⇑(0+i),by simp[rngO,hi'],⇑_⟩
def zbA (T:TF) (S:SF):Nat->Rho->Rt
 | 0,_=>.bad
 | n+1,ρ=>match T ρ with
  | .bad=>.bad
  | .ex c ρ'=>.ex c ρ'
  | .ok false ρ1 _=>.nx ρ1
  | .ok true ρ1 _=>match S ρ1 with
   | .nx ρ2=>zbA T S n ρ2
   | .ct ρ2=>zbA T S n ρ2
   | .br ρ2=>.nx ρ2
   | r=>r
theorem zgw {T:TF} {S:SF}:∀(n:Nat) (ρ:Rho),zbA T S n ρ≠.bad->zbA T S (n+1) ρ=zbA T S n ρ
 | 0,ρ,h=>absurd rfl h
 | n+1,ρ,h=>by
  rw[zbA];rw[zbA] at h ⊢
  cases a:T ρ with
  | bad=>rfl
  | ex c ρ'=>rfl
  | ok b ρ1 q=>
   rw[a] at h
   cases b with
   | false=>rfl
   | true=>
    dsimp only at h ⊢
    cases e:S ρ1 with
    | nx ρ2=>rw[e] at h;exact zgw n ρ2 h
    | ct ρ2=>rw[e] at h;exact zgw n ρ2 h
    | _=>rfl
theorem zgJ {T:TF} {S:SF} {n:Nat} {ρ:Rho} (h:zbA T S n ρ≠.bad):∀k,zbA T S (n+k) ρ=zbA T S n ρ
 | 0=>rfl
 | k+1=>by
  have:=zgJ h k
  rw[<-Nat.add_assoc,zgw (n+k) ρ (by rw[this];exact h),this]
open Classical in
def zev (T:TF) (S:SF):SF:=fun ρ=>if h:∃n,zbA T S n ρ≠.bad then zbA T S h.choose ρ else .bad
theorem ziO {T:TF} {S:SF} {n:Nat} {ρ:Rho} {r:Rt} (h:zbA T S n ρ=r) (hr:r≠.bad):zev T S ρ=r:=by
 have hn:zbA T S n ρ≠.bad:=by rw[h];exact hr
 have ex:∃n,zbA T S n ρ≠.bad:=⟨n,hn⟩;unfold zev;rw[dif_pos ex];have hc:=ex.choose_spec;have e1:=zgJ hn ex.choose;have e2:=zgJ hc n;rw[Nat.add_comm] at e2;rw[<-e2,e1,h]
theorem zme {T:TF} {S:SF} {ρ:Rho} (h:zev T S ρ≠.bad):∃n,zbA T S n ρ=zev T S ρ:=by
 unfold zev at h ⊢
 by_cases ex:∃n,zbA T S n ρ≠.bad
 .rw[dif_pos ex];exact ⟨_,rfl⟩
 .rw[dif_neg ex] at h;exact absurd rfl h
theorem znS {c:Expr} {body:List Stmt} {T:TF} {S:SF} {pos:Pos} (hp:PassesOwn 000 X.A X.env X.xe) (hc:VT X E c T) (hb:VSs X E L body S):VS X E L (.While c body [] pos) (zev T S):=(znr hp hc hb).imp fun D σ H h=>by
 obtain ⟨W,ρ,f,ok,q⟩:=h.aft;have nb:zev T S ρ≠.bad:=fun z=>by rw[z] at q;exact q
 obtain ⟨n,hn⟩:=zme nb;refine ⟨fun m σ' H'=>∃W' ρ' f',Sl X.mg X.K H' W' σ' ρ' f'/\Mv (Inn f) H W (Inn f') H' W'/\Held L σ σ'/\zbA T S m ρ'=zev T S ρ,⟨n,W,ρ,f,ok.s,.refl ok.sub ok.dom,.refl,hn⟩, ?_⟩
 rintro m σ' H' ⟨W',ρ',f',s',m',l',e⟩
 cases m with
 | zero=>exact absurd e.symm nb
 | succ m=>
  rw[zbA] at e;refine ⟨W',ρ',f',.next s' m' fun _ z=>z, ?_⟩
  cases a:T ρ' with
  | bad=>rw[a] at e;exact absurd e.symm nb
  | ex c ρ1=>
   rw[a] at e;rw[<-e] at q;exact fun H1 W1 f1 s1 m1=>q σ' H1 W1 f1 s1 (m'.trans m1) l'
  | ok b ρ1 k=>
   rw[a] at e;intro H1 W1 f1 s1 m1 _
   cases b with
   | false=>
    rw[<-e] at q;exact q σ' H1 W1 f1 s1 (m'.trans m1) l'
   | true=>
    dsimp only at e;refine ⟨_,fun σ2 H2 h2=>⟨m,Nat.lt_succ_self m,h2⟩,tS.mk (.next s1 m1 fun _ z=>z) ?_⟩
    cases b2:S ρ1 with
    | bad=>rw[b2] at e;exact absurd e.symm nb
    | nx ρ2=>rw[b2] at e;exact fun σ2 H2 W2 f2 s2 m2 l2=>⟨W2,ρ2,f2,s2,(m'.trans m1).trans m2,l'.trans l2,e⟩
    | ct ρ2=>rw[b2] at e;exact fun σ2 H2 W2 f2 s2 m2 l2=>⟨W2,ρ2,f2,s2,(m'.trans m1).trans m2,l'.trans l2,e⟩
    | br ρ2=>rw[b2] at e;rw[<-e] at q;exact fun σ2 H2 W2 f2 s2 m2 l2=>q σ2 H2 W2 f2 s2 ((m'.trans m1).trans m2) (l'.trans l2)
    | rt o ρ2=>rw[b2] at e;rw[<-e] at q;exact fun v σ2 H2 W2 f2 B s2 o nd ap m2 l2=>q v σ2 H2 W2 f2 B s2 o nd ap ((m'.trans m1).trans m2) (l'.trans l2)
    | ex c ρ2=>rw[b2] at e;rw[<-e] at q;exact fun σ2 H2 W2 f2 s2 m2 l2=>q σ2 H2 W2 f2 s2 ((m'.trans m1).trans m2) (l'.trans l2)
end
def clrR:List 015->Rho->Rho
 | [],ρ=>ρ
 | none::js,ρ=>clrR js ρ
 | some i::js,ρ=>clrR js (ρ.set i .z)
def zdp (js:List 015) (ρ:Rho):Rho:=js.map fun j=>match j with
 | none=>.z
 | some i=>(ρ[i]?).getD .z
def zcb:List 015->Rho->Rho->Rho
 | none::js,_::r,ρ=>zcb js r ρ
 | some i::js,o::r,ρ=>zcb js r (ρ.set i o)
 | _,_,ρ=>ρ
def caps (js:List 015):List Nat:=js.filterMap id
section
variable {mg:Str->Option Value} {K:PySem.W.Frag} {H:Hp} {W:Addr->Prop} {σ:St} {ρ:Rho} {f:Fp}
theorem zmF:∀{js:List 015} {ρ:Rho} {f:Fp},Sl mg K H W σ ρ f->∃f',Sl mg K H W σ (clrR js ρ) f'/\(∀i,f' i=if i∈caps js then [] else f i)
 | [],ρ,f,s=>⟨f,s,fun i=>by simp[caps]⟩
 | none::js,ρ,f,s=>by
  obtain ⟨f',h1,h2⟩:=zmF (js:=js) s;exact ⟨f',h1,fun i=>by rw[h2];simp[caps]⟩
 | some j::js,ρ,f,s=>by
  obtain ⟨f',h1,h2⟩:=zmF (js:=js) (s.setZ (i:=j));refine ⟨f',h1,fun i=>?_⟩;rw[h2]
  by_cases e:i=j
  .subst e
   by_cases q:i∈caps js
   .rw[if_pos q,if_pos (by simp[caps])]
   .rw[if_neg q,zbk,if_pos (by simp[caps])]
  .rw[zbE e]
   have:i∈caps (some j::js)↔i∈caps js:=by simp[caps,e]
   by_cases q:i∈caps js
   .rw[if_pos q,if_pos (this.mpr q)]
   .rw[if_neg q,if_neg fun z=>q (this.mp z)]
def zdU (js:List 015) (f:Fp):Fp:=fun k=>match js[k]? with
 | some (some i)=>f i
 | _=>[]
theorem zhz {js:List 015} {k i:Nat} (h:js[k]? = some (some i)):i∈caps js:=List.mem_filterMap.mpr ⟨some i,List.mem_of_getElem? h,rfl⟩
theorem zhx:∀{js:List 015} {k l i:Nat},(caps js).Nodup->js[k]? = some (some i)->js[l]? = some (some i)->k=l
 | [],k,l,i,_,h,_=>by simp at h
 | none::js,k,l,i,nd,h,h'=>by
  cases k with
  | zero=>cases h
  | succ k=>
   cases l with
   | zero=>cases h'
   | succ l=>rw[zhx (js:=js) (k:=k) (l:=l) (i:=i) (by simpa [caps] using nd) h h']
 | some j::js,k,l,i,nd,h,h'=>by
  have nd':j∉caps js/\(caps js).Nodup:=by
   have:caps (some j::js)=j::caps js:=by simp[caps]
   rw[this] at nd;exact List.nodup_cons.mp nd
  cases k with
  | zero=>
   cases l with
   | zero=>rfl
   | succ l=>cases h;exact absurd (zhz (js:=js) (k:=l) h') nd'.1
  | succ k=>
   cases l with
   | zero=>cases h';exact absurd (zhz (js:=js) (k:=k) h) nd'.1
   | succ l=>rw[zhx (js:=js) (k:=k) (l:=l) (i:=i) nd'.2 h h']
theorem zpl {js:List 015} (nd:(caps js).Nodup) (s:Sl mg K H W σ ρ f):Sl mg K H W (pick σ js) (zdp js ρ) (zdU js f):=by
 refine ⟨fun k o e=>?_,fun k hk=>?_,by unfold pick zdp;simp,⟨fun k=>?_,fun k l hkl x hx hy=>?_⟩⟩
 .unfold zdp at e;rw[List.getElem?_map] at e;unfold zdU pick;rw[List.getElem?_map]
  cases q:js[k]? with
  | none=>rw[q] at e;cases e
  | some j=>
   rw[q] at e
   cases j with
   | none=>cases e;exact .inl ⟨rfl,rfl⟩
   | some i=>
    dsimp only[Option.map] at e ⊢
    cases r:ρ[i]? with
    | none=>
     rw[r] at e;cases e;exact .inl ⟨rfl,s.no i (List.getElem?_eq_none_iff.mp r)⟩
    | some u=>
     rw[r] at e;cases e;rcases s.sl i u r with ⟨h1,h2⟩ | ⟨v,h1,h2⟩
     .exact .inl ⟨h1,h2⟩
     .exact .inr ⟨v,by rw[h1];rfl,h2⟩
 .unfold zdU;rw[List.getElem?_eq_none (by unfold zdp at hk;simpa using hk)]
 .unfold zdU;split
  .exact s.fam.nd _
  .exact List.nodup_nil
 .unfold zdU at hx hy;split at hx
  .rename_i i hi;split at hy
   .rename_i j hj
    by_cases e:i=j
    .subst e;exact hkl (zhx nd hi hj)
    .exact s.fam.ap i j e x hx hy
   .cases hy
  .cases hx
theorem zjg:∀{js:List 015} {r:Rho} {σ2:St} {g:Fp} {ρ:Rho} {f:Fp},(∀(k:Nat) (o:O),r[k]? = some o->(o=.z/\g k=[])\/∃v,σ2[k]? = some (some v)/\Ow mg K H W v o (g k))->Fam g->
  (∀(k i:Nat),js[k]? = some (some i)->σ2[k]? = some ((σ[i]?).getD none))->(caps js).Nodup->Sl mg K H W σ ρ f->(∀i∈caps js,f i=[])->(∀k i x,x∈g k->x∉f i)->
  ∃f',Sl mg K H W σ (zcb js r ρ) f'/\∀x,Inn f' x->Inn f x\/Inn g x
 | [],r,σ2,g,ρ,f,_,_,_,_,s,_,_=>by rw[zcb];exact ⟨f,s,fun x h=>.inl h⟩;all_goals simp
 | none::js,[],σ2,g,ρ,f,_,_,_,_,s,_,_=>by rw[zcb];exact ⟨f,s,fun x h=>.inl h⟩;all_goals simp
 | some j::js,[],σ2,g,ρ,f,_,_,_,_,s,_,_=>by rw[zcb];exact ⟨f,s,fun x h=>.inl h⟩;all_goals simp
 | none::js,o::r,σ2,g,ρ,f,h,fg,hσ,nd,s,hf,hd=>by
  rw[zcb];obtain ⟨f',a,b⟩:=zjg (js:=js) (r:=r) (σ2:=σ2.tail) (g:=fun k=>g (k+1)) (ρ:=ρ) (f:=f) (fun k o e=>by
    have:=h (k+1) o e
    simpa [List.getElem?_tail] using this) ⟨fun i=>fg.nd _,fun i l hil=>fg.ap _ _ ∅⟩ (fun k i e=>by
    have:=hσ (k+1) i e
    simpa [List.getElem?_tail] using this) (by simpa [caps] using nd) s (fun i hi=>hf i (by simpa [caps] using hi)) (fun k i x hx=>hd (k+1) i x hx)
  exact ⟨f',a,fun x hx=>(b x hx).imp id fun ⟨k,hk⟩=>⟨k+1,hk⟩⟩
 | some j::js,o::r,σ2,g,ρ,f,h,fg,hσ,nd,s,hf,hd=>by
  rw[zcb];have nd':j∉caps js/\(caps js).Nodup:=by
   have:caps (some j::js)=j::caps js:=by simp[caps]
   rw[this] at nd;exact List.nodup_cons.mp nd
  have s2:Sl mg K H W σ (ρ.set j o) (fset f j (g 0)):=by
   rcases h 0 o rfl with ⟨rfl,e⟩ | ⟨v,h1,h2⟩
   .rw[e];exact s.setZ
   .have e:=hσ 0 j rfl;rw[h1] at e;have e':σ[j]? = some (some v):=by
     cases q:σ[j]? with
     | none=>rw[q] at e;cases e
     | some u=>rw[q] at e;cases e;rfl
    exact s.setS e' h2 (fg.nd 0) fun x hx i _=>hd 0 i x hx
  obtain ⟨f',a,b⟩:=zjg (js:=js) (r:=r) (σ2:=σ2.tail) (g:=fun k=>g (k+1)) (ρ:=ρ.set j o) (f:=fset f j (g 0)) (fun k o e=>by
    have:=h (k+1) o e
    simpa [List.getElem?_tail] using this) ⟨fun i=>fg.nd _,fun i l hil=>fg.ap _ _ ∅⟩ (fun k i e=>by
    have:=hσ (k+1) i e
    simpa [List.getElem?_tail] using this) nd'.2 s2 (fun i hi=>by
    rw[zbE (show i≠j from fun z=>nd'.1 (z ▸ hi))];exact hf i (by rw[show caps (some j::js)=j::caps js by simp[caps]];exact List.mem_cons_of_mem _ hi)) (fun k i x hx=>by
    by_cases e:i=j
    .subst e;rw[zbk];exact fun z=>fg.ap (k+1) 0 ∅ x hx z
    .rw[zbE e];exact hd (k+1) i x hx)
  exact ⟨f',a,fun x hx=>(b x hx).elim (fun z=>z.set.imp id fun y=>⟨0,y⟩) fun ⟨k,hk⟩=>.inr ⟨k+1,hk⟩⟩
end
def lcF (js:List 015) (G:GF) (T:TF) (A:EF):List O->Rho->List O->Bool->Re (List O)
 | [],ρ,acc,q=>.ok acc ρ q
 | x::xs,ρ,acc,q=>match G x (zdp js ρ) with
  | none=>.bad
  | some ρ1=>match T ρ1 with
   | .ok b ρ2 q2=>if b then match A ρ2 with
     | .ok r ρ3 q3=>match coe ρ3 r with
      | some (o,ρ4)=>lcF js G T A xs (zcb js ρ4 (clrR js ρ)) (acc++[o]) (q&&q2&&q3)
      | none=>.bad
     | _=>.bad
    else lcF js G T A xs (zcb js ρ2 (clrR js ρ)) acc (q&&q2)
   | _=>.bad
section
variable {mg:Str->Option Value} {K:PySem.W.Frag}
def E0':XK:=fun _ _ _=>False
theorem zpi {js:List 015} {H H':Hp} {W W':Addr->Prop} {σ σ2:St} {ρ ρ':Rho} {f f2:Fp} {B:List Addr} (nd:(caps js).Nodup) (ok:Ok mg K H W σ ρ f) (s2:Sl mg K H' W' σ2 ρ' f2) (ap:∀x∈B,¬Inn f2 x)
  (m:Mv (Inn (zdU js f)) H W (fun x=>Inn f2 x\/x∈B) H' W') (hσ:∀(k i:Nat),js[k]? = some (some i)->σ2[k]? = (pick σ js)[k]?) :
  ∃f',Sl mg K H' W' σ (zcb js ρ' (clrR js ρ)) f'/\(∀x∈B,¬Inn f' x)/\Mv (Inn f) H W 095 H' W'/\(∀x,Inn f x->¬Inn (zdU js f) x->H' x=H x):=by
 obtain ⟨f0,s0,e0⟩:=zmF (js:=js) ok.s;have sub0:∀x,Inn f0 x->Inn f x:=fun x hx__=>by
  obtain ⟨i,hi⟩:=hx__;rw[e0] at hi
  by_cases q:i∈caps js
  .rw[if_pos q] at hi;cases hi
  .rw[if_neg q] at hi;exact ⟨i,hi⟩
 have out0:∀x,Inn f0 x->¬Inn (zdU js f) x:=fun x ⟨i,hi⟩ ⟨k,hk⟩=>by
  rw[e0] at hi
  by_cases q:i∈caps js
  .rw[if_pos q] at hi;cases hi
  .rw[if_neg q] at hi;unfold zdU at hk;split at hk
   .rename_i j hj;exact ok.s.fam.ap i j (fun z=>q (z ▸ zhz hj)) x hi hk
   .cases hk
 have keep:∀x,Inn f0 x->W' x/\H' x=H x:=fun x hx=>m.hand (ok.sub x (sub0 x hx)) (out0 x hx)
 have away:∀x,Inn f0 x->¬(Inn f2 x\/x∈B):=fun x hx=>m.apart (ok.sub x (sub0 x hx)) (out0 x hx)
 have s1:Sl mg K H' W' σ (clrR js ρ) f0:=s0.on m.d fun x hx=>(keep x hx).2
 have pickget:∀(k i:Nat),js[k]? = some (some i)->(pick σ js)[k]? = some ((σ[i]?).getD none):=fun k i e=>by
  unfold pick;rw[List.getElem?_map,e];rfl
 obtain ⟨f',b1,b2⟩:=zjg (js:=js) (r:=ρ') (σ2:=σ2) (g:=f2) s2.sl s2.fam (fun k i e=>(hσ k i e).trans (pickget k i e)) nd s1 (fun i hi=>by rw[e0,if_pos hi]) (fun k i x hx z=>away x ⟨i,z⟩ (.inl ⟨k,hx⟩));have pin:∀x,Inn (zdU js f) x->Inn f x:=fun x hx__=>by
  obtain ⟨k,hk⟩:=hx__;unfold zdU at hk;split at hk
  .exact ⟨_,hk⟩
  .cases hk
 refine ⟨f',b1,fun x hx z=>?_,⟨fun b o e n=>m.same b o e fun z=>n (pin b z),m.less,fun x w=>(m.more x w).imp (pin x) id,fun x w=>?_,ok.sub,ok.dom,fun x w=>?_,m.dom'⟩,fun x hx hn=>?_⟩
 .rcases b2 x z with z | z
  .exact away x z (.inr hx)
  .exact ap x hx z
 .rcases w with w | w
  .rcases b2 x w with z | z
   .exact .inl (sub0 x z)
   .exact (m.ours x (.inl z)).imp (pin x) id
  .exact (m.ours x (.inr w)).imp (pin x) id
 .rcases w with w | w
  .rcases b2 x w with z | z
   .exact (keep x z).1
   .exact m.sub' x (.inl z)
  .exact m.sub' x (.inr w)
 .obtain ⟨i,hi⟩:=hx;have hc:i∉caps js:=fun z=>hn (by
   obtain ⟨j,hj,e⟩:=List.mem_filterMap.mp z;cases e;obtain ⟨k,hk,hk'⟩:=List.getElem_of_mem hj;exact ⟨k,by unfold zdU;rw[List.getElem?_eq_getElem hk,hk'];exact hi⟩)
  have h0:Inn f0 x:=⟨i,by rw[e0,if_neg hc];exact hi⟩;exact (keep x h0).2
theorem zjq {J:It} {js:List 015} {items:List O} {L:List Nat} {G:GF} {T:TF} {A:EF} {σ:St} {H1:Hp} {W1:Addr->Prop} {ρ1:Rho} {f1:Fp} {Q:VK} {os:List O} {ρ':Rho} {q:Bool} (ok:Ok mg K H1 W1 σ ρ1 f1) (nd:(caps js).Nodup) (hL:∀(k i:Nat),js[k]? = some (some i)->k∈L)
  (hz:items.length<=sizeLine)
  (go:∀i H W',(∃A',Mv (Inn f1) H1 W1 A' H W')->i < items.length->J.go i H) (stop:∀H W',(∃A',Mv (Inn f1) H1 W1 A' H W')->J.stop items.length H)
  (yl:∀i H W' x H',(∃A',Mv (Inn f1) H1 W1 A' H W')->(∀x,W' x->H x≠none)->i < items.length->J.yld i H x H'->Gr H W' [] H' W'/\∃o,items[i]? = some o/\Ow mg K H' W' x o [])
  (e:lcF js G T A items ρ1 [] true=.ok os ρ' q)
  (fin:∀l acc H' W' f' As,H' l=none->Sl mg K H' W' σ ρ' f'->Ows mg K H' W' acc os As->As.Nodup->(∀x∈As,¬Inn f' x)->Mv (Inn f1) H1 W1 089 H' W'->(q=true->∀x,Inn f1 x->H' x=H1 x)->Q (.ref l) (upd H' l (.lst acc))) :
  lcGo J js (tTg mg K L G) (tT mg K E0' T) (tR mg K E0' A) σ H1 Q:=by
 let Pv:Nat->List V->Hp->Prop:=fun i acc H'=>∃W' ρi f' As us qi,Sl mg K H' W' σ ρi f'/\Ows mg K H' W' acc us As/\As.Nodup/\(∀x∈As,¬Inn f' x)/\Mv (Inn f1) H1 W1 089 H' W'/\(qi=true->∀x,Inn f1 x->H' x=H1 x)/\us.length<=i/\lcF js G T A (items.drop i) ρi us qi=.ok os ρ' q
 refine ⟨fun i m acc H'=>m=items.length - i/\i<=items.length/\Pv i acc H',⟨items.length,by simp,Nat.zero_le _,W1,ρ1,f1,[],[],true,ok.s,.nil,List.nodup_nil,fun x z=>(nomatch z),ok.refl,fun _ _ _=>rfl,Nat.le_refl _,e⟩, ?_⟩
 rintro i m acc H' ⟨rfl,hi,W',ρi,f',As,us,qi,s',o',ndA,apA,m',k',hlen,e'⟩
 have hacc:acc.length=us.length:=o'.length
 by_cases hlt:i < items.length
 .refine .inr ⟨go i H' W' ⟨_,m'⟩ hlt,by omega,fun x H2 y=>?_⟩;obtain ⟨g,ox,eo,ow⟩:=yl i H' W' x H2 ⟨_,m'⟩ m'.dom' hlt y;have ed:items.drop i=ox::items.drop (i+1):=by
   rw[List.drop_eq_getElem_cons hlt];rw[List.getElem?_eq_getElem hlt] at eo;cases eo;rfl
  rw[ed,lcF] at e';have ok':Ok mg K H' W' σ ρi f':=⟨s',fun x hx=>m'.sub' x (.inl hx),m'.dom'⟩
  cases e1:G ox (zdp js ρi) with
  | none=>rw[e1] at e';cases e'
  | some ρ2=>
   rw[e1] at e';dsimp only at e';have s2:Sl mg K H2 W' σ ρi f':=s'.on g.d fun x hx=>g.kept m'.dom' (m'.sub' x (.inl hx))
   have ok2:Ok mg K H2 W' σ ρi f':=⟨s2,ok'.sub,fun x hx=>by rw[g.kept m'.dom' hx];exact m'.dom' x hx⟩;have p2:=zpl (js:=js) nd s2;have pin:∀x,Inn (zdU js f') x->Inn f' x:=fun x hx__=>by
    obtain ⟨k,hk⟩:=hx__;unfold zdU at hk;split at hk
    .exact ⟨_,hk⟩
    .cases hk
   refine ⟨W',zdp js ρi,zdU js f',ox,[],ρ2,p2,ow,List.nodup_nil,fun x z=>(nomatch z),fun x hx=>ok2.sub x (pin x (hx.resolve_right fun z=>nomatch z)),ok2.dom,e1,fun σ3 f3 s3 i3 l3=>?_⟩;have i3':∀x,Inn f3 x->Inn (zdU js f') x:=fun x hx=>(i3 x hx).resolve_right fun z=>nomatch z
   have m3:Mv (Inn (zdU js f')) H2 W' (Inn f3) H2 W':=(Mv.refl (fun x hx=>ok2.sub x (pin x hx)) ok2.dom).narrow i3';have ok3:Ok mg K H2 W' σ3 ρ2 f3:=.next s3 m3 fun _ z=>z
   have held3:∀(k i:Nat),js[k]? = some (some i)->σ3[k]? = (pick σ js)[k]? := fun k i hk=>l3.2 k (hL k i hk)
   -- what was there zdS of the turn
   have back:∀{H4:Hp} {W4:Addr->Prop} {ρ4:Rho} {f4:Fp} {B:List Addr} {qq:Bool},Sl mg K H4 W4 σ3 ρ4 f4->(∀x∈B,¬Inn f4 x)->Mv (Inn f3) H2 W' (fun x=>Inn f4 x\/x∈B) H4 W4->(qq=true->∀x,Inn f3 x->H4 x=H2 x)->
     ∃f5,Sl mg K H4 W4 σ (zcb js ρ4 (clrR js ρi)) f5/\(∀x∈B,¬Inn f5 x)/\(∀x∈As,¬Inn f5 x/\x∉B)/\Ows mg K H4 W4 acc us As/\Mv (Inn f1) H1 W1 (fun x=>Inn f5 x\/x∈As\/x∈B) H4 W4/\((qi&&qq)=true->∀x,Inn f1 x->H4 x=H1 x):=fun {H4 W4 ρ4 f4 B qq} s4 ap4 m4 k4=>by
    have m4':Mv (Inn (zdU js f')) H2 W' (fun x=>Inn f4 x\/x∈B) H4 W4:=m3.trans m4;obtain ⟨f5,b1,b2,b3,b4⟩:=zpi nd ok2 s4 ap4 m4' held3;have hAs:∀x∈As,W' x/\¬Inn f' x:=fun x hx=>⟨m'.sub' x (.inr hx),apA x hx⟩
    have keepA:∀x∈As,W4 x/\H4 x=H2 x:=fun x hx=>b3.hand (hAs x hx).1 (hAs x hx).2
    have awayA:∀x∈As,¬(Inn f5 x\/x∈B):=fun x hx=>b3.apart (hAs x hx).1 (hAs x hx).2
    have o2:Ows mg K H2 W' acc us As:=o'.on g.d fun x hx=>g.kept m'.dom' (hAs x hx).1
    refine ⟨f5,b1,b2,fun x hx=>⟨fun z=>awayA x hx (.inl z),fun z=>awayA x hx (.inr z)⟩,o2.on b3.d fun x hx=>(keepA x hx).2, ?_,fun hq x hx=>?_⟩
    .have gm:Mv 089 H' W' 089 H2 W':=(g.mv m'.sub' m'.dom').narrow fun x hx=>.inl hx
     refine (m'.trans gm).trans ⟨fun b o e n=>b3.same b o e fun z=>n (.inl z),b3.less,fun x w=>(b3.more x w).imp .inl id,fun x w=>?_,gm.sub',b3.dom,fun x w=>?_,b3.dom'⟩
     .rcases w with w | w | w
      .exact (b3.ours x (.inl w)).imp .inl id
      .exact .inl (.inr w)
      .exact (b3.ours x (.inr w)).imp .inl id
     .rcases w with w | w | w
      .exact b3.sub' x (.inl w)
      .exact (keepA x w).1
      .exact b3.sub' x (.inr w)
    .rw[Bool.and_eq_true] at hq;have h1:=k' hq.1 x hx
     cases ex:H1 x with
     | none=>exact absurd ex (ok.dom x (ok.sub x hx))
     | some u=>
      rw[ex] at h1;have h2:H2 x=some u:=g.same x u h1
      by_cases c:Inn f' x
      .by_cases c2:Inn (zdU js f') x
       .by_cases c3:Inn f3 x
        .rw[k4 hq.2 x c3];exact h2
        .exact m4.same x u h2 c3
       .rw[b4 x c c2];exact h2
      .exact b3.same x u h2 c
   refine ⟨W',ρ2,f3,ok3, ?_⟩
   cases e2:T ρ2 with
   | bad=>rw[e2] at e';cases e'
   | ex c ρ3=>rw[e2] at e';cases e'
   | ok b ρ3 q2=>
    rw[e2] at e';dsimp only at e';intro H4 W4 f4 s4 m4 k4
    cases b with
    | false=>
     rw[if_neg Bool.false_ne_true] at e' ⊢;obtain ⟨f5,b1,_,b3,b4,b5,b6⟩:=back (B:=[]) s4 096 (m4.narrow fun x hx=>hx.resolve_right fun z=>nomatch z) k4;exact ⟨items.length - (i+1),by omega,rfl,hlt,W4,_,f5,As,us,_,b1,b4,ndA,fun x hx=>(b3 x hx).1,b5.narrow fun x hx=>hx.imp id .inl,b6,by omega,e'⟩
    | true=>
     rw[if_pos rfl] at e' ⊢;refine ⟨W4,ρ3,f4,.next s4 m4 fun _ z=>z, ?_⟩
     cases e3:A ρ3 with
     | bad=>rw[e3] at e';cases e'
     | ex c ρ4=>rw[e3] at e';cases e'
     | ok r ρ4 q3=>
      rw[e3] at e';dsimp only at e';intro v H5 W5 f5 B s5 r5 n5 m5 k5
      cases e4:coe ρ4 r with
      | none=>rw[e4] at e';cases e'
      | some z=>
       obtain ⟨o,ρ5⟩:=z;rw[e4] at e';dsimp only at e';obtain ⟨W6,f6,s6,g6,B',ow6,nd6,in6⟩:=zgB s5 (fun x hx=>m5.sub' x (.inl hx)) r5 e4;have hB':∀x∈B',W6 x/\¬Inn f6 x:=fun x hx=>⟨(g6.more x (m5.sub' x (.inr (in6 x hx)))).resolve_left (n5 x (in6 x hx)),fun z=>n5 x (in6 x hx) (g6.ours x z)⟩
       have m6:Mv (Inn f3) H2 W' (fun x=>Inn f6 x\/x∈B') H5 W6:=(m4.trans m5).trans (g6.mv (fun x hx=>.inl hx) m5.sub' m5.dom' fun x hx=>⟨.inr (in6 x hx),(hB' x hx).1⟩);obtain ⟨f7,b1,b2,b3,b4,b5,b6⟩:=back (B:=B') s6 (fun x hx=>(hB' x hx).2) m6 (zg3 ok3 k4 m5 k5);refine ⟨items.length - (i+1),by omega,rfl,hlt,W6,_,f7,As++(B'++[]),us++[o],_,b1,Ows.app b4 (.cons ow6 .nil), ?_,fun x hx=>?_,b5.narrow fun x hx=>?_,by rw[<-Bool.and_assoc] at b6;exact b6,by simp;omega,e'⟩
       .rw[List.append_nil];exact List.nodup_append.mpr ⟨ndA,nd6,fun x hx y hy z=>(b3 x hx).2 (z ▸ hy)⟩
       .rw[List.append_nil] at hx;exact (List.mem_append.mp hx).elim (fun z=>(b3 x z).1) (b2 x)
       .rw[List.append_nil] at hx;exact hx.imp id fun z=>List.mem_append.mp z
 .have e2:i=items.length:=by omega
  subst e2;rw[List.drop_length,lcF] at e'
  cases e'
  exact .inl ⟨stop H' W' ⟨_,m'⟩,by omega,fun l hl=>fin l acc H' W' f' As hl s' o' ndA apA m' k'⟩
end
def capL (js:List 015):List Nat:=(List.range js.length).filter fun k=>match js[k]? with | some (some _)=>true | _=>false
theorem zgd {js:List 015} {k i:Nat} (h:js[k]? = some (some i)):k∈capL js:=by
 unfold capL;rw[List.mem_filter,List.mem_range];exact ⟨(List.getElem?_eq_some_iff.mp h).1,by rw[h]⟩
def eLC (I:Rho->Re (List O)) (js:List 015) (G:GF) (T:TF) (A:EF):EF:=fun ρ=>match I ρ with
 | .bad=>.bad
 | .ex c ρ'=>.ex c ρ'
 | .ok items ρ1 q1=>if items.length<=sizeLine then match lcF js G T A items ρ1 [] true with
   | .ok os ρ2 q2=>.ok (.own (.l os)) ρ2 (q1&&q2)
   | _=>.bad
  else .bad
section
variable {mg:Str->Option Value} {K:PySem.W.Frag} {E:XK}
theorem zox {σ:St} {H:Hp} {W:Addr->Prop} {ρ ρ2:Rho} {f f1:Fp} {Q:VK} {os:List O} {H1:Hp} {W1:Addr->Prop} {q1 q2:Bool} (ok:Ok mg K H W σ ρ f) (m1:Mv (Inn f) H W (Inn f1) H1 W1) (k1:q1=true->∀x,Inn f x->H1 x=H x)
  (q:∀v H' W' f' B,Sl mg K H' W' σ ρ2 f'->RvOk mg K H' W' σ v (.own (.l os)) B->(∀x∈B,¬Inn f' x)->Mv (Inn f) H W 095 H' W'->((q1&&q2)=true->∀x,Inn f x->H' x=H x)->Q v H') :
  ∀l acc H' W' f' As,H' l=none->Sl mg K H' W' σ ρ2 f'->Ows mg K H' W' acc os As->As.Nodup->(∀x∈As,¬Inn f' x)->Mv (Inn f1) H1 W1 089 H' W'->(q2=true->∀x,Inn f1 x->H' x=H1 x)->Q (.ref l) (upd H' l (.lst acc)):=fun l acc H' W' f' As hl s o nd ap m k=>by
 have g:Gr H' W' [l] (upd H' l (.lst acc)) (fun x=>W' x\/x∈[l]):=Gr.newO hl;have m':=m1.trans m;have hlA:l∉As:=fun z=>m.dom' l (m.sub' l (.inr z)) hl
 refine q (.ref l) _ _ f' (l::As) (s.on g.d fun x hx=>g.kept m.dom' (m.sub' x (.inl hx))) ⟨.l zbu 0003,List.nodup_cons.mpr ⟨hlA,nd⟩⟩ (fun x hx z=>?_) ((m'.trans (g.mv m.sub' m.dom')).narrow fun x hx=>?_) fun hq=>g.quiet ok (zg3 ok k1 m k hq)
 .rcases List.mem_cons.mp hx with rfl | hx
  .exact m.dom' x (m.sub' x (.inl z)) hl
  .exact ap x hx z
 .rcases hx with hx | hx
  .exact .inl (.inl hx)
  .rcases List.mem_cons.mp hx with rfl | hx
   .exact .inr List.mem_cons_self
   .exact .inl (.inr hx)
theorem zh7 {js:List 015} {G:GF}:GK js (tTg mg K (capL js) G):=fun v σ H Q h=>by
 obtain ⟨W,ρ,f,o,B,ρ',sl,ow,nd,ap,sb,dm,e,q⟩:=h;exact ⟨W,ρ,f,o,B,ρ',sl,ow,nd,ap,sb,dm,e,fun σ' f' s i l=>⟨q σ' f' s i l,fun k j hk=>l.2 k (zgd hk)⟩⟩
theorem zsH {A0 A:EF} {js:List 015} {G:GF} {T:TF} {σ:St} {H:Hp} {Q:VK} (nd:(caps js).Nodup) (h:tR mg K E (eLC (itR1 A0) js G T A) σ H Q):tLC (zs0 (zhQ (tR mg K E A0) tNil)) js (tTg mg K (capL js) G) (tT mg K E0' T) (tR mg K E0' A) σ H Q:=by
 obtain ⟨W,ρ,f,ok,q⟩:=h;unfold eLC itR1 at q;refine tR.mono (zoY zlv (Q:=fun j H1=>okR j=true/\∃W1 ρ1 f1 q1,Sl mg K H1 W1 σ ρ1 f1/\Mv (Inn f) H W (Inn f1) H1 W1/\(q1=true->∀x,Inn f x->H1 x=H x)/\kR mg K E σ H W f Q (if (rngO 0 j.toNat).length<=sizeLine then match lcF js G T A (rngO 0 j.toNat) ρ1 [] true with
   | .ok os ρ2 q2=>Re.ok (Rv.own (.l os)) ρ2 (q1&&q2)
   | _=>.bad
  else .bad)) ⟨W,ρ,f,ok, ?_⟩) fun v H1 hx1=>?_
 .cases c:eSc decI A0 ρ with
  | bad=>rw[c] at q;exact q
  | ex c ρ'=>rw[c] at q;exact q
  | ok j ρ1 q1=>
   rw[c] at q;dsimp only[Re.bind] at q;intro H1 W1 f1 s m k
   by_cases hr:okR j=true
   .rw[if_pos hr] at q;exact ⟨hr,W1,ρ1,f1,q1,s,m,k,q⟩
   .rw[if_neg hr] at q;exact False.elim q
 .obtain ⟨j,e,hr,W1,ρ1,f1,q1,s,m,k,q⟩:=hx1;have hr':=of_decide_eq_true hr
  by_cases hz:(rngO 0 j.toNat).length<=sizeLine
  .rw[if_pos hz] at q
   cases b:lcF js G T A (rngO 0 j.toNat) ρ1 [] true with
   | bad=>rw[b] at q;exact False.elim q
   | ex c ρ'=>rw[b] at q;exact False.elim q
   | ok os ρ2 q2=>
    rw[b] at q;refine ⟨j,by rw[e],hr'.1,hr'.2,zjq (items:=rngO 0 j.toNat) (.next s m fun _ z=>z) nd (fun k i=>zgd) hz (fun i H2 W2 ⟨_,mm⟩ hi=>?_) (fun H2 W2 ⟨_,mm⟩=>?_) (fun i H2 W2 x H3 ⟨_,mm⟩ dd hi y=>?_) b (zox ok m k q)⟩
    .show i < j.toNat;simpa [rngO] using hi
    .show j.toNat<=_;simp[rngO]
    .obtain ⟨rfl,rfl⟩:=y;have hi':i < j.toNat:=by simpa [rngO] using hi
     exact ⟨.refl,⇑(0+i),by simp[rngO,hi'],⇑_⟩
  .rw[if_neg hz] at q;exact False.elim q
theorem zcz {X:Cx}:PF X [] (tT X.mg X.K E0' 055):=fun pins s σ H Q I h=>zqQ pins s σ H Q I (tG.ret (E:=E0') h)
theorem zmd {X:Cx} {c:Expr} {T:TF} (hc:VT X E0' c T):PF X [c] (tT X.mg X.K E0' T):=zsA hc
end
def pass:List Bool->List Rv->Rho->Option (List O×List Nat×Rho)
 | [],[],ρ=>some ([],[],ρ)
 | false::ms,r::rs,ρ=>match coe ρ r with
  | some (o,ρ1)=>match pass ms rs ρ1 with
   | some (os,is,ρ2)=>some (o::os,is,ρ2)
   | none=>none
  | none=>none
 | true::ms,.at i []::rs,ρ=>match ρ[i]? with
  | some .z=>none
  | some o=>match pass ms rs (ρ.set i .z) with
   | some (os,is,ρ2)=>some (o::os,i::is,ρ2)
   | none=>none
  | none=>none
 | _,_,_=>none
def zfW:List Bool->List V->List V
 | true::ms,v::vs=>v::zfW ms vs
 | false::ms,_::vs=>zfW ms vs
 | _,_=>[]
def zcu:List Bool->Rho->List O
 | true::ms,o::ρ=>o::zcu ms ρ
 | false::ms,_::ρ=>zcu ms ρ
 | _,_=>[]
def zfI:List Bool->Fp->Fp
 | true::ms,g=>zhW (g 0) (zfI ms fun k=>g (k+1))
 | false::ms,g=>zfI ms fun k=>g (k+1)
 | [],_=>fun _=>[]
def zhN:Nat->List Bool->List Nat
 | k,true::ms=>k::zhN (k+1) ms
 | k,false::ms=>zhN (k+1) ms
 | _,[]=>[]
def zeU:List Nat->List O->Rho->Rho
 | i::is,o::os,ρ=>zeU is os (ρ.set i o)
 | _,_,ρ=>ρ
section
variable {mg:Str->Option Value} {K:PySem.W.Frag} {H:Hp} {σ:St}
theorem Hd.cons {W:Addr->Prop} {v:V} {vs:List V} {o:O} {os:List O} {B:List Addr} {g:Fp} (h:Ow mg K H W v o B) (nd:B.Nodup) (t:Hd mg K H W vs os g) (ap:∀x∈B,¬Inn g x):Hd mg K H W (v::vs) (o::os) (zhW B g):=
 ⟨fun i u e=>by
  cases i with
  | zero=>cases e;exact ⟨v,rfl,h⟩
  | succ i=>exact t.hd i u e,fun i hi=>by
  cases i with
  | zero=>simp at hi
  | succ i=>exact t.no i (by simpa using hi),by simp[t.len],.cons nd t.fam ap⟩
theorem Hd.nil {W:Addr->Prop}:Hd mg K H W [] [] fun _=>[]:=⟨fun i u e=>by simp at e,fun _ _=>rfl,rfl,⟨fun _=>List.nodup_nil,fun _ _ _ _ z=>nomatch z⟩⟩
structure zrw (σ:St) (ρ:Rho) (is:List Nat) (vs:List V):Prop where
 nd:is.Nodup
 len:is.length=vs.length
 at_:∀(j i:Nat),is[j]? = some i->∃v,vs[j]? = some v/\σ[i]? = some (some v)/\ρ[i]? = some .z
theorem ztP {ρ ρ1:Rho} {r:Rv} {o:O} {i:Nat} (a:coe ρ r=some (o,ρ1)) (hi:ρ[i]? = some O.z):ρ1[i]? = some O.z:=by
 cases r with
 | own u=>cases a;exact hi
 | «at» j p=>
  rw[coe] at a
  cases c:ρ[j]? with
  | none=>rw[c] at a;cases a
  | some oi=>
   rw[c] at a;dsimp only at a
   by_cases hj:j=i
   .subst hj;rw[hi] at c;cases c
    cases p with
    | nil=>
     rw[show sub [] O.z=some O.z from rfl] at a;dsimp only at a;rw[show fz O.z=none from rfl] at a;cases a
    | cons k p=>cases a
   .have:ρ1=ρ\/∃y,ρ1=ρ.set j y:=by
     split at a
     .cases a;exact .inl rfl
     .cases a;exact .inl rfl
     .cases a;exact .inl rfl
     .cases a;exact .inl rfl
     .split at a
      .cases a;exact .inr ⟨_,rfl⟩
      .cases a
     .cases a
    rcases this with rfl | ⟨y,rfl⟩
    .exact hi
    .rw[List.getElem?_set_ne hj];exact hi
theorem zoh {ms:List Bool} {rs:List Rv} {ρ ρ':Rho} {os:List O} {is:List Nat} (e:pass (false::ms) rs ρ=some (os,is,ρ')):∃r rt o ρ1 os',rs=r::rt/\coe ρ r=some (o,ρ1)/\pass ms rt ρ1=some (os',is,ρ')/\os=o::os':=by
 cases rs with
 | nil=>cases e
 | cons r rt=>
  rw[pass] at e
  cases a:coe ρ r with
  | none=>rw[a] at e;cases e
  | some z=>
   obtain ⟨o,ρ1⟩:=z;rw[a] at e;dsimp only at e
   cases b:pass ms rt ρ1 with
   | none=>rw[b] at e;cases e
   | some z=>
    obtain ⟨os',is',ρ2⟩:=z;rw[b] at e;cases e;exact ⟨r,rt,o,ρ1,os',rfl,a,b,rfl⟩
theorem zoy {ms:List Bool} {rs:List Rv} {ρ ρ':Rho} {os:List O} {is:List Nat} (e:pass (true::ms) rs ρ=some (os,is,ρ')):∃i rt o os' is',rs=.at i []::rt/\ρ[i]? = some o/\o≠.z/\pass ms rt (ρ.set i .z)=some (os',is',ρ')/\os=o::os'/\is=i::is':=by
 cases rs with
 | nil=>cases e
 | cons r rt=>
  cases r with
  | own u=>cases e
  | «at» i p=>
   cases p with
   | cons k p=>cases e
   | nil=>
    rw[pass] at e
    cases a:ρ[i]? with
    | none=>rw[a] at e;cases e
    | some o=>
     rw[a] at e;have nz:o≠.z:=fun z=>by subst z;cases e
     have e':(match pass ms rt (ρ.set i .z) with
      | some (os,is,ρ2)=>some (o::os,i::is,ρ2)
      | none=>none)=some (os,is,ρ'):=by
      cases o<;>first | exact e | exact absurd rfl nz
     cases b:pass ms rt (ρ.set i .z) with
     | none=>rw[b] at e';cases e'
     | some z=>
      obtain ⟨os',is',ρ2⟩:=z;rw[b] at e'
      cases e'
      exact ⟨i,rt,o,os',is',rfl,a,nz,b,rfl,rfl⟩
theorem zqV {ms:List Bool}:∀{rs:List Rv} {ρ ρ':Rho} {os:List O} {is:List Nat} {i:Nat},pass ms rs ρ=some (os,is,ρ')->ρ[i]? = some O.z->ρ'[i]? = some O.z/\i∉is:=by
 induction ms with
 | nil=>
  intro rs ρ ρ' os is i e h
  cases rs with
  | nil=>cases e;exact ⟨h,fun z=>nomatch z⟩
  | cons r rt=>cases e
 | cons m ms ih=>
  intro rs ρ ρ' os is i e h
  cases m with
  | false=>
   obtain ⟨r,rt,o,ρ1,os',rfl,a,b,rfl⟩:=zoh e;exact ih b (ztP a h)
  | true=>
   obtain ⟨j,rt,o,os',is',rfl,a,nz,b,rfl,rfl⟩:=zoy e;have hj:j≠i:=fun z=>by subst z;rw[h] at a;cases a;exact nz rfl
   obtain ⟨q1,q2⟩:=ih b (i:=i) (by rw[List.getElem?_set_ne hj];exact h);exact ⟨q1,fun z=>(List.mem_cons.mp z).elim (fun z=>hj z.symm) q2⟩
structure zsq (mg:Str->Option Value) (K:PySem.W.Frag) (H:Hp) (σ:St) (ms:List Bool) (vs:List V) (W:Addr->Prop) (f g:Fp) (os:List O) (is:List Nat) (ρ':Rho) (W':Addr->Prop) (f' g':Fp):Prop where
 s:Sl mg K H W' σ ρ' f'
 v:Gv W f W' f'
 h:Hd mg K H W' vs os g'
 i:∀x,Inn g' x->(Inn g x\/Inn f x)/\W' x/\¬Inn f' x
 l:zrw σ ρ' is (zfW ms vs)
 n:vs.length=ms.length
 j:ms.all (fun m=>!m)=true->∀x,Inn g' x->Inn g x
theorem zpk {ms:List Bool}:∀{rs:List Rv} {vs:List V} {W:Addr->Prop} {ρ ρ':Rho} {f g:Fp} {os:List O} {is:List Nat},Sl mg K H W σ ρ f->(∀x,Inn f x->W x)->Rvs mg K H W σ vs rs g->(∀x,Inn g x->W x/\¬Inn f x)->pass ms rs ρ=some (os,is,ρ')->
  ∃W' f' g',zsq mg K H σ ms vs W f g os is ρ' W' f' g':=by
 induction ms with
 | nil=>
  intro rs vs W ρ ρ' f g os is s sb h hg e
  cases rs with
  | cons r rt=>cases e
  | nil=>
   cases e
   cases vs with
   | nil=>exact ⟨W,f,_,s,.refl sb,.nil,fun x ⟨_,z⟩=>(nomatch z),⟨List.nodup_nil,rfl,fun j i e=>by simp at e⟩,rfl,fun _ x ⟨_,z⟩=>nomatch z⟩
   | cons v vs=>have:=h.len;simp at this
 | cons m ms ih=>
  intro rs vs W ρ ρ' f g os is s sb h hg e
  cases m with
  | false=>
   obtain ⟨r,rt,o,ρ1,os',rfl,a,b,rfl⟩:=zoh e;obtain ⟨v,us,rfl,h0,ht⟩:=h.tail;obtain ⟨W1,f1,s1,g1,B,o1,nd1,in1⟩:=zgB s sb h0 a;have hg1:∀x,Inn g x->W1 x/\¬Inn f1 x:=fun x hx=>⟨(g1.more x (hg x hx).1).resolve_left (hg x hx).2,fun z=>(hg x hx).2 (g1.ours x z)⟩
   obtain ⟨W2,f2,g2,p⟩:=ih s1 g1.sub (ht.weak g1.less) (fun x ⟨k,hk⟩=>hg1 x ⟨k+1,hk⟩) b;have hB:∀x∈B,W1 x/\¬Inn f1 x:=fun x hx=>hg1 x ⟨0,in1 x hx⟩
   have ap:∀x∈B,¬Inn g2 x:=fun x hx z=>by
    rcases (p.i x z).1 with ⟨k,hk⟩ | q
    .exact h.fam.ap 0 (k+1) ∅ x (in1 x hx) hk
    .exact (hB x hx).2 q
   refine ⟨W2,f2,zhW B g2,p.s,g1.trans p.v,.cons (o1.on (DMv.weak p.v.less) fun _ _=>rfl) nd1 p.h ap,fun x hx=>?_,p.l,by simp[p.n],fun hm x hx=>(inn_cons.mp hx).elim (fun hx=>⟨0,in1 x hx⟩) fun hx=>(fun ⟨k,hk⟩=>⟨k+1,hk⟩) (p.j (by simpa using hm) x hx)⟩;rcases inn_cons.mp hx with hx | hx
   .exact ⟨.inl ⟨0,in1 x hx⟩,(p.v.more x (hB x hx).1).resolve_left (hB x hx).2,fun z=>(hB x hx).2 (p.v.ours x z)⟩
   .obtain ⟨q1,q2,q3⟩:=p.i x hx;exact ⟨q1.elim (fun ⟨k,hk⟩=>.inl ⟨k+1,hk⟩) fun z=>.inr (g1.ours x z),q2,q3⟩
  | true=>
   obtain ⟨i,rt,o,os',is',rfl,a,nz,b,rfl,rfl⟩:=zoy e;obtain ⟨v,us,rfl,h0,ht⟩:=h.tail;obtain ⟨_,u,h1,h2⟩:=h0
   cases (show u=v from h2)
   rcases s.sl i o a with ⟨z,_⟩ | ⟨u',g1,ow⟩
   .exact absurd z nz
   .rw[h1] at g1;cases g1;have hil:i < ρ.length:=(List.getElem?_eq_some_iff.mp a).1;have sbZ:∀x,Inn (fset f i []) x->Inn f x:=fun x hx=>hx.set.elim id fun z=>nomatch z
    have outZ:∀x∈f i,¬Inn (fset f i []) x:=fun x hx hx__=>by
     obtain ⟨j,hj⟩:=hx__
     by_cases q:j=i
     .subst q;rw[zbk] at hj;cases hj
     .rw[zbE q] at hj;exact s.fam.ap j i q x hj hx
    obtain ⟨W2,f2,g2,p⟩:=ih (s.setZ (i:=i)) (fun x hx=>sb x (sbZ x hx)) ht (fun x ⟨k,hk⟩=>⟨(hg x ⟨k+1,hk⟩).1,fun z=>(hg x ⟨k+1,hk⟩).2 (sbZ x z)⟩) b;have ap:∀x∈f i,¬Inn g2 x:=fun x hx z=>by
     rcases (p.i x z).1 with ⟨k,hk⟩ | q
     .exact (hg x ⟨k+1,hk⟩).2 ⟨i,hx⟩
     .exact outZ x hx q
    obtain ⟨zi,ni⟩:=zqV b (i:=i) (List.getElem?_set_self hil);refine ⟨W2,f2,zhW (f i) g2,p.s,⟨p.v.less,fun x hx=>(p.v.more x hx).imp (sbZ x) id,fun x hx=>sbZ x (p.v.ours x hx),p.v.sub⟩,.cons (ow.on (DMv.weak p.v.less) fun _ _=>rfl) (s.fam.nd i) p.h ap,fun x hx=>?_,⟨List.nodup_cons.mpr ⟨ni,p.l.nd⟩,by simp[zfW,p.l.len],fun j k hk=>?_⟩,by simp[p.n],fun hm=>by simp at hm⟩
    .rcases inn_cons.mp hx with hx | hx
     .exact ⟨.inr ⟨i,hx⟩,(p.v.more x (sb x ⟨i,hx⟩)).resolve_left (outZ x hx),fun z=>outZ x hx (p.v.ours x z)⟩
     .obtain ⟨q1,q2,q3⟩:=p.i x hx;exact ⟨q1.elim (fun ⟨k,hk⟩=>.inl ⟨k+1,hk⟩) fun z=>.inr (sbZ x z),q2,q3⟩
    .cases j with
     | zero=>cases hk;exact ⟨v,rfl,h1,zi⟩
     | succ j=>exact p.l.at_ j k hk
theorem zn2 {is:List Nat}:∀{os:List O} {vs:List V} {W:Addr->Prop} {ρ:Rho} {f g:Fp},Sl mg K H W σ ρ f->zrw σ ρ is vs->Hd mg K H W vs os g->(∀x,Inn g x->¬Inn f x)->∃f',Sl mg K H W σ (zeU is os ρ) f'/\∀x,Inn f' x->Inn f x\/Inn g x:=by
 induction is with
 | nil=>
  intro os vs W ρ f g s l h ap;exact ⟨f,by unfold zeU;exact s,fun x hx=>.inl hx⟩
 | cons i is ih=>
  intro os vs W ρ f g s l h ap
  cases os with
  | nil=>exact ⟨f,by unfold zeU;exact s,fun x hx=>.inl hx⟩
  | cons o os=>
   obtain ⟨v,e1,e2,e3⟩:=l.at_ 0 i rfl;obtain ⟨v',e1',ow⟩:=h.hd 0 o rfl;rw[e1] at e1'
   cases e1'
   cases vs with
   | nil=>cases e1
   | cons w vs=>
    cases e1;have s1:=s.setS e2 ow (h.fam.nd 0) fun x hx j _ z=>ap x ⟨0,hx⟩ ⟨j,z⟩
    have nd:=List.nodup_cons.mp l.nd;obtain ⟨f',a1,a2⟩:=ih (os:=os) (vs:=vs) (g:=fun k=>g (k+1)) s1 ⟨nd.2,by have:=l.len;simpa using this,fun j k hk=>by
      obtain ⟨u,q1,q2,q3⟩:=l.at_ (j+1) k hk;refine ⟨u,q1,q2, ?_⟩;rw[List.getElem?_set_ne (fun z:i=k=>nd.1 (z ▸ List.mem_of_getElem? hk))];exact q3⟩ ⟨fun k u e=>h.hd (k+1) u e,fun k hk=>h.no (k+1) (by simpa using hk),by have:=h.len;simpa using this,⟨fun k=>h.fam.nd _,fun k l hkl=>h.fam.ap _ _ ∅⟩⟩ (fun x ⟨k,hk⟩ z=>z.set.elim (ap x ⟨k+1,hk⟩) fun y=>h.fam.ap (k+1) 0 ∅ x hk y)
    exact ⟨f',by rw[zeU];exact a1,fun x hx=>(a2 x hx).elim (fun z=>z.set.imp id fun y=>⟨0,y⟩) fun ⟨k,hk⟩=>.inr ⟨k+1,hk⟩⟩
end
def kVS (mg:Str->Option Value) (K:PySem.W.Frag) (ms:List Bool) (vs:List V) (H:Hp) (Q:VK) (E:XK) (W:Addr->Prop) (g:Fp):Rc->Prop
 | .bad=>False
 | .ok o outs=>∀v H' W' B g',Ow mg K H' W' v o B->B.Nodup->Hd mg K H' W' (zfW ms vs) outs g'->(∀x∈B,¬Inn g' x)->Mv (Inn g) H W (fun x=>Inn g' x\/x∈B) H' W'->Q v H'
 | .ex c outs=>∀H' W' g',Hd mg K H' W' (zfW ms vs) outs g'->Mv (Inn g) H W (Inn g') H' W'->XW mg K E c H'
def VSp (mg:Str->Option Value) (K:PySem.W.Frag) (ms:List Bool) (F:FC):Sp:=fun vs H Q E=>vs.length=ms.length/\∃W os g,Hd mg K H W vs os g/\(∀x,Inn g x->W x)/\(∀x,W x->H x≠none)/\kVS mg K ms vs H Q E W g (F os)
def scl:O->Bool
 | .d .none=>true
 | .d (.bool _)=>true
 | ⇑_=>true
 | .d (.str _)=>true
 | _=>false
theorem zrZ {mg:Str->Option Value} {K:PySem.W.Frag} {H:Hp} {W W':Addr->Prop} {v:V} {o:O} {B:List Addr} (h:Ow mg K H W v o B) (e:scl o=true):Ow mg K H W' v o []:=by
 unfold scl at e;split at e
 .rw[h.non];exact .d .non
 .rw[h.bl];exact .d (.bl _)
 .rw[h.int];exact ⇑_
 .rw[h.str];exact .d (.str _)
 .cases e
def zah (ms:List Bool) (F:FC) (A:AF):EF:=fun ρ=>(A ρ).bind fun rs ρ1 q=>match pass ms rs ρ1 with
 | some (os,is,ρ2)=>match F os with
  | .bad=>.bad
  | .ok o outs=>if ms.all (fun m=>!m)&&scl o then .ok (.own o) ρ1 false else .ok (.own o) (zeU is outs ρ2) false
  | .ex c outs=>.ex c (zeU is outs ρ2)
 | none=>.bad
abbrev VDef (P:Program) (w:World) (K:PySem.W.Frag) (mg:Str->Option Value) (base:Heap) (x:Str) (ps:List Str) (k:Nat) (ms:List Bool) (F:FC):Prop:=zmE P w K mg base x ps k (VSp mg K ms F)
section
variable {X:Cx} {E:XK}
theorem zpq {ms:List Bool} {F:FC} {A:AF} {σ:St} {H:Hp} {Q:VK} (h:tR X.mg X.K E (zah ms F A) σ H Q):zqJ (VSp X.mg X.K ms F) [] E (tRs X.mg X.K E A) σ H Q:=by
 obtain ⟨W,ρ,f,ok,q⟩:=h;refine ⟨W,ρ,f,ok, ?_⟩;unfold zah at q
 cases a:A ρ with
 | bad=>rw[a] at q;exact q
 | ex c ρ'=>rw[a] at q;exact q
 | ok rs ρ1 q1=>
  rw[a] at q;intro vs H1 W1 f1 g s1 r1 n1 m1 k1;dsimp only[Re.bind] at q
  cases b:pass ms rs ρ1 with
  | none=>rw[b] at q;exact False.elim q
  | some z=>
   obtain ⟨os,is,ρ2⟩:=z;rw[b] at q;dsimp only at q;obtain ⟨W2,f2,g2,p⟩:=zpk s1 (fun x hx=>m1.sub' x (.inl hx)) r1 (fun x hx=>⟨m1.sub' x (.inr hx),n1 x hx⟩) b;have dom2:∀x,W2 x->H1 x≠none:=fun x hx=>m1.dom' x (p.v.less x hx)
   have m2:Mv (Inn f) H W (fun x=>Inn f2 x\/Inn g2 x) H1 W2:=m1.trans ⟨fun _ _ h _=>h,fun x h=>.inl (p.v.less x h),fun x h=>(p.v.more x h).imp .inl id,fun x h=>.inl (h.elim (fun z=>.inl (p.v.ours x z)) fun z=>(p.i x z).1.elim .inr .inl),m1.sub',m1.dom',fun x h=>h.elim (p.v.sub x) fun z=>(p.i x z).2.1,dom2⟩;rw[List.append_nil];refine ⟨p.n,W2,os,g2,p.h,fun x hx=>(p.i x hx).2.1,dom2, ?_⟩
   -- behind the call
   have rest:∀{H':Hp} {W':Addr->Prop} {g':Fp} {outs:List O} {B:List Addr},Hd X.mg X.K H' W' (zfW ms vs) outs g'->(∀x∈B,¬Inn g' x)->Mv (Inn g2) H1 W2 (fun x=>Inn g' x\/x∈B) H' W'->
     ∃f',Sl X.mg X.K H' W' σ (zeU is outs ρ2) f'/\(∀x∈B,¬Inn f' x)/\Mv (Inn f) H W 095 H' W':=fun {H' W' g' outs B} hd ap m=>by
    have keep:∀x,Inn f2 x->W' x/\H' x=H1 x:=fun x hx=>m.hand (p.v.sub x hx) fun z=>(p.i x z).2.2 hx
    have away:∀x,Inn f2 x->¬(Inn g' x\/x∈B):=fun x hx=>m.apart (p.v.sub x hx) fun z=>(p.i x z).2.2 hx
    have s3:Sl X.mg X.K H' W' σ ρ2 f2:=p.s.on m.d fun x hx=>(keep x hx).2
    obtain ⟨f',b1,b2⟩:=zn2 (os:=outs) s3 p.l hd fun x hx z=>away x z (.inl hx)
    refine ⟨f',b1,fun x hx z=>?_,m2.trans ⟨fun b o e n=>m.same b o e fun z=>n (.inr z),m.less,fun x w=>(m.more x w).imp .inr id,fun x w=>?_,m2.sub',m.dom,fun x w=>?_,m.dom'⟩⟩
    .rcases b2 x z with z | z
     .exact away x z (.inr hx)
     .exact ap x hx z
    .rcases w with w | w
     .rcases b2 x w with z | z
      .exact .inl (.inl z)
      .exact (m.ours x (.inl z)).imp .inr id
     .exact (m.ours x (.inr w)).imp .inr id
    .rcases w with w | w
     .rcases b2 x w with z | z
      .exact (keep x z).1
      .exact m.sub' x (.inl z)
     .exact m.sub' x (.inr w)
   cases c:F os with
   | bad=>rw[c] at q;exact q
   | ok o outs=>
    rw[c] at q;intro v H' W' B g' ow nd hd ap m;dsimp only at q
    by_cases hm:(ms.all (fun m=>!m)&&scl o)=true
    .rw[if_pos hm] at q;rw[Bool.and_eq_true] at hm;have gg:=p.j hm.1;have ng:∀x,Inn f1 x->¬Inn g2 x:=fun x hx z=>n1 x (gg x z) hx
     have keep:∀x,Inn f1 x->H' x=H1 x:=fun x hx=>by
      cases e:H1 x with
      | none=>exact absurd e (m1.dom' x (m1.sub' x (.inl hx)))
      | some u=>exact m.same x u e (ng x hx)
     have dm:DMv H1 W1 H' (fun x=>W' x\/Inn f1 x):=fun a o ha na=>⟨m.same a o ha fun z=>na (m1.sub' a (.inr (gg a z))),fun z=>z.elim (fun z=>(m.less a z).elim (fun y=>na (p.v.less a y)) fun y=>by rw[ha] at y;cases y) fun z=>na (m1.sub' a (.inl z))⟩
     refine q v H' (fun x=>W' x\/Inn f1 x) f1 [] (s1.on dm keep) ⟨zrZ ow hm.2,List.nodup_nil⟩ 096 ((m1.trans ⟨fun b o e n=>m.same b o e fun z=>n (.inr (gg b z)),fun x w=>?_,fun x w=>?_,fun x w=>.inl (.inl w),m1.sub',m1.dom',fun x w=>.inr w,fun x w=>?_⟩).narrow fun x hx=>hx.resolve_right fun z=>nomatch z) fun z=>nomatch z
     .exact w.elim (fun w=>(m.less x w).imp (p.v.less x) id) fun w=>.inl (m1.sub' x (.inl w))
     .rcases p.v.more x w with y | y
      .exact .inl (.inl y)
      .exact (m.more x y).imp (fun z=>.inr (gg x z)) .inl
     .exact w.elim (m.dom' x) fun w=>by rw[keep x w];exact m1.dom' x (m1.sub' x (.inl w))
    .rw[if_neg hm] at q;obtain ⟨f',b1,b2,b3⟩:=rest hd ap m;exact q v H' W' f' B b1 ⟨ow,nd⟩ b2 b3 fun z=>nomatch z
   | ex c outs=>
    rw[c] at q;intro H' W' g' hd m;obtain ⟨f',b1,_,b3⟩:=rest (B:=[]) hd 096 (m.narrow fun x hx=>hx.resolve_right fun z=>nomatch z);exact q H' W' f' b1 (b3.narrow fun x hx=>.inl hx)
theorem zhj {k j:Nat} {ps:List Str} {ms:List Bool} {F:FC} {x:Str} {p pos:Pos} {e:Expr} {es:List Expr} {A:AF} (C:VDef X.prog X.w X.K X.mg X.base x ps k ms F) (hr:Room j X.A) (hj:k<=j) (hg:Gl X x) (hx:zie (CXF X.prog X.w X.base) X E) (ha:VA X E (e::es) A)
  (hdb:065=false:=by decide +kernel) (he:starEach (e::es) X.env=034::starEach es X.env:=by rfl) (hpl:(backTo pos (starEach es X.env)).any (·.1)=false:=by rfl) :
  VR X E 0008 (zah ms F A):=by
 obtain ⟨f,fd,h1,h2,h3,h4⟩:=C.ex;exact (zqf h4 (hr.mono hj) hg h1 h2 h3 .nil hx ha hdb he hpl).imp fun σ H Q h=>zpq h
theorem zkV:zie (CXF X.prog X.w X.base) X E0':=fun pins σ H s e s' I h=>by
 obtain ⟨_,_,_,_,_,_,_,_,_,_,z⟩:=h;exact z.elim
def runF (ms:List Bool) (n:Nat) (S:SF):FC:=fun os=>match S (os++List.replicate (n - os.length) .z) with
 | .nx ρ'=>.ok 042 (zcu ms ρ')
 | .rt o ρ'=>.ok o (zcu ms ρ')
 | .ex c ρ'=>.ex c (zcu ms ρ')
 | _=>.bad
theorem zpc {mg:Str->Option Value} {K:PySem.W.Frag} {H:Hp} {W:Addr->Prop} {ms:List Bool}:∀{vs:List V} {ρ:Rho} {σ:St} {f:Fp} {k:Nat},(∀(i:Nat) (o:O),ρ[i]? = some o->(o=.z/\f i=[])\/∃v,σ[i]? = some (some v)/\Ow mg K H W v o (f i))->Fam f->ms.length<=ρ.length->vs.length=ms.length->
  (∀(i:Nat) (v:V),ms[i]? = some true->vs[i]? = some v->σ[i]? = some (some v))->Hd mg K H W (zfW ms vs) (zcu ms ρ) (zfI ms f)/\∀x,Inn (zfI ms f) x->Inn f x:=by
 induction ms with
 | nil=>intro vs ρ σ f k _ _ _ _ _;exact ⟨by unfold zfW zcu zfI;exact .nil,fun x ⟨_,z⟩=>by unfold zfI at z;cases z⟩
 | cons m ms ih=>
  intro vs ρ σ f k h fm hl hv hh
  cases ρ with
  | nil=>simp at hl
  | cons o ρ=>
   cases vs with
   | nil=>simp at hv
   | cons v vs=>
    obtain ⟨a,b⟩:=ih (vs:=vs) (ρ:=ρ) (σ:=σ.tail) (f:=fun i=>f (i+1)) (k:=k) (fun i u e=>by
     have:=h (i+1) u e
     simpa [List.getElem?_tail] using this) ⟨fun i=>fm.nd _,fun i j hij=>fm.ap _ _ ∅⟩ (by simpa using hl) (by simpa using hv) (fun i u e1 e2=>by
     have:=hh (i+1) u e1 e2
     simpa [List.getElem?_tail] using this)
    cases m with
    | false=>exact ⟨by rw[zfW,zcu,zfI];exact a,fun x hx=>by rw[zfI] at hx;obtain ⟨i,hi⟩:=b x hx;exact ⟨i+1,hi⟩⟩
    | true=>
     have ow:Ow mg K H W v o (f 0):=by
      rcases h 0 o rfl with ⟨rfl,e⟩ | ⟨u,e1,e2⟩
      .rw[e];exact .z v
      .rw[hh 0 v rfl rfl] at e1;cases e1;exact e2
     have ap:∀x∈f 0,¬Inn (zfI ms fun i=>f (i+1)) x:=fun x hx z=>by
      obtain ⟨i,hi⟩:=b x z;exact fm.ap 0 (i+1) ∅ x hx hi
     refine ⟨by rw[zfW,zcu,zfI];exact .cons ow (fm.nd 0) a ap,fun x hx=>?_⟩;rw[zfI] at hx;rcases inn_cons.mp hx with hx | hx
     .exact ⟨0,hx⟩
     .obtain ⟨i,hi⟩:=b x hx;exact ⟨i+1,hi⟩
theorem zl6:∀{ms:List Bool} {k i:Nat},ms[i]? = some true->k+i∈zhN k ms:=by
 intro ms
 induction ms with
 | nil=>intro k i h;simp at h
 | cons m ms ih=>
  intro k i h
  cases i with
  | zero=>cases h;rw[zhN];exact List.mem_cons_self
  | succ i=>
   have:=ih (k:=k+1) (i:=i) (by simpa using h)
   rw[show k+1+i=k+(i+1) by omega] at this
   cases m with
   | true=>rw[zhN];exact List.mem_cons_of_mem _ this
   | false=>rw[zhN];exact this
theorem zjL {mg:Str->Option Value} {K:PySem.W.Frag} {H:Hp} {W:Addr->Prop} {N:List Str} {vs:List V} {os:List O} {g:Fp} (h:Hd mg K H W vs os g) (hn:vs.length<=N.length):Sl mg K H W (start N vs) (os++List.replicate (N.length - os.length) .z) g:=by
 have hl:=h.len;refine ⟨fun i o e=>?_,fun i hi=>h.no i (by simp at hi;omega),by unfold start;simp;omega,h.fam⟩
 by_cases hi:i < os.length
 .rw[List.getElem?_append_left hi] at e;obtain ⟨v,e1,e2⟩:=h.hd i o e;refine .inr ⟨v, ?_,e2⟩;unfold start;rw[List.getElem?_append_left (by simp;omega),List.getElem?_map,e1];rfl
 .rw[List.getElem?_append_right ∅,List.getElem?_replicate] at e;split at e
  .cases e;exact .inl ⟨rfl,h.no i ∅⟩
  .cases e
theorem zlG {P:Program} {w:World} {K:PySem.W.Frag} {mg:Str->Option Value} {base:Heap} {x:Str} {st:Stmt} {N ps:List Str} {k n:Nat} {ms:List Bool} {S:SF} (d:∃f fd,Fun K x x st f fd/\mg x=some (.ref f))
  (hb:∀(kV doc pm:Value) (an:Option Addr) (cdv ct:Value) (us:List Value),us.length=ps.length->bindArgs 021 ⟨us,[]⟩=pure (ps.zip us))
  (sc:zam N ps (zae st)) (hms:ms.length=ps.length) (hn:N.length=n) (hpn:ps.length<=n)
  (body:∀(f:Addr) (cdv:Value) (A:Around) (outer:List Env) (s:Shared) (H:Hp) (E:XK),Room k 0010->
   VSs (cxOf (CXF P w base) P w K mg base N x (zae st) f cdv A outer s H E) E (zhN 0 ms) (zcg st) S):VDef P w K mg base x ps (k+1) ms (runF ms n S):=by
 subst hn;refine zkU d hb sc (fun vs H Q E h=>h.1.trans hms) fun f cdv A outer s H vs Q E hr h=>⟨_,body f cdv A outer s H E hr, ?_⟩
 obtain ⟨hl,W,os,g,hd,sb,dm,q⟩:=h;have s0:=zjL (N:=N) hd ∅;have hlo:=hd.len;refine tS.mk ⟨s0,sb,dm⟩ ?_;have held:∀{σ':St} {ρ':Rho} {H':Hp} {W':Addr->Prop} {f':Fp},Sl mg K H' W' σ' ρ' f'->Held (zhN 0 ms) (start N vs) σ'->Hd mg K H' W' (zfW ms vs) (zcu ms ρ') (zfI ms f')/\∀x,Inn (zfI ms f') x->Inn f' x:=fun {σ' ρ' H' W' f'} s' l'=>
  zpc (k:=0) s'.sl s'.fam (by rw[s'.len,l'.1];unfold start;simp;omega) hl fun i v e1 e2=>by
   have:=l'.2 i (by have:=zl6 (k:=0) e1;rwa [Nat.zero_add] at this)
   rw[this];unfold start;have hi:i < vs.length:=(List.getElem?_eq_some_iff.mp e2).1;rw[List.getElem?_append_left (by simpa using hi),List.getElem?_map,e2];rfl
 unfold runF at q
 cases a:S (os++List.replicate (N.length - os.length) .z) with
 | bad=>rw[a] at q;exact q
 | br ρ'=>rw[a] at q;exact False.elim q
 | ct ρ'=>rw[a] at q;exact False.elim q
 | nx ρ'=>
  rw[a] at q;intro σ' H' W' f' s' m' l';obtain ⟨h1,h2⟩:=held s' l';exact q .non H' W' [] _ (.d .non) List.nodup_nil h1 096 (m'.narrow fun x hx=>hx.elim (h2 x) fun z=>nomatch z)
 | rt o ρ'=>
  rw[a] at q;intro v σ' H' W' f' B s' ow nd ap m' l';obtain ⟨h1,h2⟩:=held s' l';exact q v H' W' B _ ow nd h1 (fun x hx z=>ap x hx (h2 x z)) (m'.narrow fun x hx=>hx.imp (h2 x) id)
 | ex c ρ'=>
  rw[a] at q;intro σ' H' W' f' s' m' l';obtain ⟨h1,h2⟩:=held s' l';exact q H' W' _ h1 (m'.narrow h2)
end
end L2
local macro_rules|`(↥$x)=>`(L2.eC (.int $x))
namespace L2
open PySem PySem.Spec PySem.Calls PyProof.Rows
section
variable {X:Cx} {E:XK} {L:List Nat} {elt tgt iter:Expr} {ifs:List Expr} {scope:Scope} {pos:Pos} {N':List Str} {js:List (Option Nat)} {G:GF} {T:TF} {A A0:EF}
abbrev Blk (X:Cx) (N':List Str) (scope:Scope) (js:List 015) (tgt:Expr) (ifs:List Expr) (elt:Expr) (G:GF) (T:TF) (A:EF):Prop:=∀(s':Shared) (H':Hp) (ex:List Addr),
 VG 046 (capL js) tgt G/\PF 046 ifs (tT X.mg X.K E0' T)/\VR 046 E0' elt A
theorem zjp {p cpos:Pos} {e:Expr} (hi:VR X E e A0) (hgl:Gl X "range") (hm:X.mg "range"=none) (hc:X.calm=true) (hcap:zh0 X.N X.env.scope N' scope js=true) (hf:zfo X.env.scope scope=true) (hkind:scope.kind=.function) (nd:(caps js).Nodup)
  (hb:Blk X N' scope js tgt ifs elt G T A) (hst:starEach [e] X.env=[034]:=by rfl)
  (hs:∀x,foldedSetIterable (.Call (.Name "range" p) [e] [] cpos) X.env x=pure x:=by intro _;rfl):VR X E 0007 (eLC (itR1 A0) js G T A):=
 (zqs hc (zgH hgl hm (zdW hi ze4 hst) hst) hcap zh7 hf hkind hb hs).imp fun σ H Q h=>zsH nd h
theorem zsx {wi:TI} {te:TE} {tt:TT} {g:TG} {B:EF} {i:Nat} {D:Ends} {σ:St} {H:Hp} (hL:i∉L) (lc:∀{Q:VK},tR X.mg X.K E B σ H Q->tLC wi js g tt te σ H Q) (h:tS X.mg X.K E L (sAsg coe B (gtN i)) D σ H):tAsg (tLC wi js g tt te) (zkP i) D σ H:=
 lc (tR.mono (zmp zaZ h) fun v H1 hx__=>by
  obtain ⟨W,ρ,f,o,B,ρ',sl,ow,nd,ap,sb,dm,e,q⟩:=hx__;unfold gtN at e
  by_cases hi:i < ρ.length
  .rw[if_pos hi] at e;cases e;exact q _ _ (sl.bind i ow nd ap hi) (fun x hx=>hx.set) (zgc hL)
  .rw[if_neg hi] at e;cases e)
theorem zhk {p cpos:Pos} {e:Expr} {i:Nat} {y:Str} {py spos:Pos} (hN:X.N.Nodup) (hiy:X.N[i]? = some y) (hy:Loc X.env.scope y) (hL:i∉L) (hi:VR X E e A0) (hgl:Gl X "range") (hm:X.mg "range"=none) (hc:X.calm=true) (hcap:zh0 X.N X.env.scope N' scope js=true) (hf:zfo X.env.scope scope=true) (hkind:scope.kind=.function) (nd:(caps js).Nodup) (hb:Blk X N' scope js tgt ifs elt G T A)
  (hst:starEach [e] X.env=[034]:=by rfl)
  (hsw:swapsWith 0007 (some (.Name y py)) spos.line X.env=pure true:=by rfl) (hs:∀x,foldedSetIterable (.Call (.Name "range" p) [e] [] cpos) X.env x=pure x:=by intro _;rfl) (hfn:X.fn y=true\/X.env.scope.names.lookup y=some .local:=by first | exact .inl rfl | exact .inr rfl | assumption) :
  VS X E L (.Assign [.Name y py] 0007 spos) (sAsg coe (eLC (itR1 A0) js G T A) (gtN i)):=
 (zj6 hN hiy hy hc (zgH hgl hm (zdW hi ze4 hst) hst) hcap zh7 hf hkind hb hsw hs hfn).imp fun D σ H h=>zsx hL (fun h=>zsH nd h) h
end
section
variable {X:Cx} {E:XK}
def decS:O->Option Str
 | .d (.str s)=>some s
 | _=>none
end
theorem Room.units65 {k:Nat} {A:Around} (r:Room k A):A.units+65 < cLine:=by have:=r.un;omega
section
variable {X:Cx} {E:XK}
theorem zsk {o:Expr} {A:EF} {apos cpos:Pos} (ho:VR X E o A) (h:∀{t:TE},PE X o t->PE X 0014 (tBM0 X.K "int" 0022 t)) :
  VR X E 0014 (e1 A zkH):=zo1 ho (h ho)
theorem zmi {c e:Expr} {C A:EF} {apos cpos:Pos} (hc:VR X E c C) (he:VR X E e A) (h:∀{to t:TE},PE X c to->PE X e t->PE X (.Call (.Attribute c "append" apos) [e] [] cpos) (tBM X.K "list" zjj to (zhQ t tNil))):VR X E (.Call (.Attribute c "append" apos) [e] [] cpos) (eApp C A):=zq4 hc he (h hc he)
end
def zjD (K:PySem.W.Frag):Sp:=fun vs H Q _=>∃(a:Addr) (ns:List Int),vs=[.ref a]/\SqL K H a 014/\ns.length<=63/\∀H',Q (.bl true) H'
theorem zpg {K:PySem.W.Frag} {H:Hp} {a:Addr} {ns:List Int} (hl:ns.length<=63) (_:Only H) (hS:SqL K H a 014):zjD K [.ref a] H (fun v _=>v=.bl true) fun _ _ _=>False:=⟨a,ns,rfl,hS,hl,fun _=>rfl⟩
theorem zr0 {P:Program} {w:World} {K:PySem.W.Frag} {mg:Str->Option Value} {base:Heap} {x p:Str} {st:Stmt} {N:List Str} {k n:Nat} {S:SF} (d:∃f fd,Fun K x x st f fd/\mg x=some (.ref f))
  (hb:∀(kV doc pm:Value) (an:Option Addr) (cdv ct:Value) (us:List Value),us.length=[p].length->bindArgs 021 ⟨us,[]⟩=pure ([p].zip us))
  (sc:zam N [p] (zae st)) (hn:N.length=n) (hpn:1<=n)
  (body:∀(f:Addr) (cdv:Value) (A:Around) (outer:List Env) (s:Shared) (H:Hp) (E:XK),Room k 0010->
   VSs (cxOf CX0 P w K mg base N x (zae st) f cdv A outer s H E).nox E0' [] (zcg st) S)
  (hF:∀ns:List Int,ns.length<=63->∃ρ',S (.q 014::List.replicate (n - 1) .z)=.rt 037 ρ'):zkl P w K mg base x [p] (k+1) (zjD K):=by
 subst hn;refine zm7 d hb sc (fun vs H Q E ⟨a,ns,e,_⟩=>by rw[e];rfl) fun f cdv A outer s H vs Q E hr h=>⟨_,body f cdv A outer s H E hr, ?_⟩
 obtain ⟨a,ns,rfl,hS,hl,k⟩:=h;obtain ⟨ρ',e⟩:=hF ns hl;have hd:Hd mg K H (fun _=>False) [.ref a] [.q 014] (zhW [] fun _=>[]):=.cons (.q (hS.imp (fun z=>⟨z,fun z=>z⟩) id)) List.nodup_nil .nil fun x z=>nomatch z
 have s0:=zjL (N:=N) hd (by simpa using hpn);refine tS.mk ⟨s0,fun x hx=>?_,fun x z=>z.elim⟩ ?_
 .rcases inn_cons.mp hx with z | ⟨_,z⟩<;>cases z
 .rw[show ([O.q 014]++List.replicate (N.length - [O.q 014].length) O.z)=.q 014::List.replicate (N.length - 1) .z from rfl,e];intro v σ' H' W' f' B s' ow nd ap m' l';rw[ow.bl];exact k H'
def cov (ρ:Rho) (r:Rv):Option (List PyData×Bool×Rho):=match coe ρ r with
 | some (o,ρ2)=>match fz o with
  | some (.list ds)=>some (ds,true,ρ2)
  | some (.tuple ds)=>some (ds,false,ρ2)
  | _=>none
 | none=>none
def zeH (ρ:Rho):Rv->Option (List PyData×Bool×Nat×O)
 | .own _=>none
 | .at i p=>match ρ[i]? with
  | some oi=>match sub p oi with
   | some (.l os)=>match lds os with
    | some ds=>some (ds,true,i,oi)
    | none=>none
   | some (.t os)=>match lds os with
    | some ds=>some (ds,false,i,oi)
    | none=>none
   | _=>none
  | none=>none
theorem zqZ {mg:Str->Option Value} {K:PySem.W.Frag} {H:Hp} {W:Addr->Prop} {σ:St} {ρ ρ':Rho} {f:Fp} {r:Rv} {v:V} {B:List Addr} {ds:List PyData} {k:Bool} (s:Sl mg K H W σ ρ f) (sb:∀x,Inn f x->W x) (h:RvOk mg K H W σ v r B) (hB:∀x∈B,W x/\¬Inn f x) (e:cov ρ r=some (ds,k,ρ')) :
  ∃a xs W' f',v=.ref a/\H a=some (if k then .lst xs else .tup xs)/\¬W' a/\Dns H W' xs ds/\Sl mg K H W' σ ρ' f'/\(∀x,W' x->W x)/\(∀x,W x->(Inn f x\/x∈B)\/W' x)/\(∀x,Inn f' x->Inn f x)/\(∀x,Inn f' x->W' x):=by
 unfold cov at e
 cases b:coe ρ r with
 | none=>rw[b] at e;cases e
 | some z=>
  obtain ⟨o,ρ2⟩:=z;rw[b] at e;dsimp only at e;obtain ⟨W2,f2,s2,g2,As,ow,nd2,in2⟩:=zgB s sb h b;have hA:∀x∈As,¬Inn f2 x:=fun x hx z=>(hB x (in2 x hx)).2 (g2.ours x z)
  have s3:Sl mg K H (fun x=>W2 x/\x∉As) σ ρ2 f2:=s2.on (DMv.weak fun _ z=>z.1) fun _ _=>rfl
  have more:∀x,W x->(Inn f x\/x∈B)\/(W2 x/\x∉As):=fun x w=>by
   by_cases y:x∈As
   .exact .inl (.inr (in2 x y))
   .exact (g2.more x w).imp .inl fun u=>⟨u,y⟩
  cases c:fz o with
  | none=>rw[c] at e;cases e
  | some x=>
   rw[c] at e
   cases x with
   | list xs=>
    cases e
    cases (ow.dn (W':=fun x=>W2 x/\x∉As) (fun _ z=>z.1) c fun x hx z=>z.2 hx) with
    | lst n hh t=>exact ⟨_,_,_,f2,rfl,hh,n,t,s3,fun x z=>g2.less x z.1,more,g2.ours,fun x hx=>⟨g2.sub x hx,fun z=>hA x z hx⟩⟩
   | tuple xs=>
    cases e
    cases (ow.dn (W':=fun x=>W2 x/\x∉As) (fun _ z=>z.1) c fun x hx z=>z.2 hx) with
    | tup n hh t=>exact ⟨_,_,_,f2,rfl,hh,n,t,s3,fun x z=>g2.less x z.1,more,g2.ours,fun x hx=>⟨g2.sub x hx,fun z=>hA x z hx⟩⟩
   | _=>cases e
abbrev Src:=List O×Option (Nat×O)
def srcM (view:Bool) (mk:List PyData->List O) (A:EF):Rho->Re (Src×Bool):=fun ρ=>(A ρ).bind fun r ρ1 q=>match (if view then zeH ρ1 r else none) with
 | some (ds,k,i,oi)=>.ok ((mk ds,some (i,oi)),k) (ρ1.set i .z) q
 | none=>match cov ρ1 r with
  | some (ds,k,ρ2)=>.ok ((mk ds,none),k) ρ2 q
  | none=>.bad
def ziK:Option (Nat×O)->Rho->Rho
 | none,ρ=>ρ
 | some (i,o),ρ=>ρ.set i o
section
variable {mg:Str->Option Value} {K:PySem.W.Frag} {E:XK}
def Kept (mg:Str->Option Value) (K:PySem.W.Frag) (σ:St) (H0:Hp) (f0:Fp) (H:Hp) (W:Addr->Prop) (f:Fp):Option (Nat×O)->Prop
 | none=>True
 | some (i,o)=>∃u C,σ[i]? = some (some u)/\Ow mg K H W u o C/\C.Nodup/\∀x∈C,W x/\¬Inn f x/\(Inn f0 x\/H0 x=none)
def kSrc (mg : Str -> Option Value) (K : PySem.W.Frag) (E : XK) (mk : List PyData -> List O) (σ : St) (H : Hp) (W : Addr -> Prop) (f : Fp) (R : V -> Hp -> Prop) : Re (Src × Bool) -> Prop
  | .bad => False
  | .ex c ρ' => ∀ H' W' f', Sl mg K H' W' σ ρ' f' -> Mv (Inn f) H W (Inn f') H' W' -> XW mg K E c H'
  | .ok ((items, rs), k) ρ' q => ∀ a xs ds H' W' f', Sl mg K H' W' σ ρ' f' -> Mv (Inn f) H W (Inn f') H' W' -> (q = true -> ∀ x, Inn f x -> H' x = H x) -> H' a = some (if k then .lst xs else .tup xs) -> Dns H' W' xs ds -> items = mk ds ->
          (∀ H2 W2 A2, Mv (Inn f') H' W' A2 H2 W2 -> H2 a = H' a) -> Kept mg K σ H f H' W' f' rs -> R (.ref a) H'
theorem srcd {view:Bool} {mk:List PyData->List O} {A:EF} {σ:St} {H:Hp} {W:Addr->Prop} {ρ:Rho} {f:Fp} {R:V->Hp->Prop} (ok:Ok mg K H W σ ρ f)
  (q:kSrc mg K E mk σ H W f R (srcM view mk A ρ)) :
  tR mg K E A σ H R:=by
 refine ⟨W,ρ,f,ok, ?_⟩;unfold srcM at q
 cases a:A ρ with
 | bad=>rw[a] at q;exact q
 | ex c ρ'=>rw[a] at q;exact q
 | ok r ρ1 k0=>
  rw[a] at q;dsimp only[Re.bind] at q ⊢;intro v H1 W1 f1 B s1 r1 n1 m1 k1;have viaCov:(match cov ρ1 r with
    | some (ds,k,ρ2)=>(Re.ok ((mk ds,none),k) ρ2 k0:Re (Src×Bool))
    | none=>.bad)=(match (if view then zeH ρ1 r else none) with
    | some (ds,k,i,oi)=>.ok ((mk ds,some (i,oi)),k) (ρ1.set i .z) k0
    | none=>match cov ρ1 r with
     | some (ds,k,ρ2)=>.ok ((mk ds,none),k) ρ2 k0
     | none=>.bad)->R v H1:=fun e=>by
   rw[<-e] at q
   cases c:cov ρ1 r with
   | none=>rw[c] at q;exact False.elim q
   | some z=>
    obtain ⟨ds,k,ρ2⟩:=z;rw[c] at q;obtain ⟨b,xs,W2,f2,rfl,h1,h2,h3,h4,h5,h6,h7,h8⟩:=zqZ s1 (fun x hx=>m1.sub' x (.inl hx)) r1 (fun x hx=>⟨m1.sub' x (.inr hx),n1 x hx⟩) c;refine q b xs ds H1 W2 f2 h4 (m1.trans ⟨fun _ _ h _=>h,fun x h=>.inl (h5 x h),h6,fun x h=>.inl (.inl (h7 x h)),m1.sub',m1.dom',h8,fun x h=>m1.dom' x (h5 x h)⟩) k1 h1 h3 rfl (fun H2 W2' A2 m=>?_) trivial;rw[(m.d b _ h1 h2).1,h1]
  cases view with
  | false=>exact viaCov rfl
  | true=>
   rw[if_pos rfl] at q viaCov
   cases c:zeH ρ1 r with
   | none=>rw[c] at viaCov;exact viaCov rfl
   | some z=>
    obtain ⟨ds,k,i,oi⟩:=z;rw[c] at q;dsimp only at q
    cases r with
    | own o=>cases c
    | «at» j p=>
     rw[zeH] at c
     cases c1:ρ1[j]? with
     | none=>rw[c1] at c;cases c
     | some oj=>
      rw[c1] at c;dsimp only at c;have c2:∃n os,sub p oj=some n/\els n=some (k,os)/\lds os=some ds/\j=i/\oj=oi:=by
       split at c
       .rename_i os e
        cases e2:lds os with
        | none=>rw[e2] at c;cases c
        | some y=>rw[e2] at c;cases c;exact ⟨_,os,e,rfl,e2,rfl,rfl⟩
       .rename_i os e
        cases e2:lds os with
        | none=>rw[e2] at c;cases c
        | some y=>rw[e2] at c;cases c;exact ⟨_,os,e,rfl,e2,rfl,rfl⟩
       .cases c
      obtain ⟨n,os,e1,e2,e3,rfl,rfl⟩:=c2;obtain ⟨_,u,h1,h2⟩:=r1;rcases s1.sl j oj c1 with ⟨rfl,_⟩ | ⟨u',g1,ow⟩
      .cases p with
       | nil=>cases e1;cases e2
       | cons=>cases e1
      .rw[h1] at g1;cases g1;obtain ⟨w,D,k1',k2,k3⟩:=ow.sub e1
       cases k1'.inj h2
       obtain ⟨b,vs,rfl,hb,dn⟩:=k2.items e2 e3;have hz:Sl mg K H1 W1 σ (ρ1.set j .z) (fset f1 j []):=s1.setZ;have sbz:∀x,Inn (fset f1 j []) x->Inn f1 x:=fun x hx=>hx.set.elim id fun z=>nomatch z
       have outz:∀x∈f1 j,¬Inn (fset f1 j []) x:=fun x hx hx__=>by
        obtain ⟨l,hl⟩:=hx__
        by_cases q:l=j
        .subst q;rw[zbk] at hl;cases hl
        .rw[zbE q] at hl;exact s1.fam.ap l j q x hl hx
       refine q b vs ds H1 W1 (fset f1 j []) hz (m1.narrow fun x hx=>.inl (sbz x hx)) k1 hb dn rfl (fun H2 W2 A2 m=>?_) ⟨u,f1 j,h1,ow,s1.fam.nd j,fun x hx=>⟨m1.sub' x (.inl ⟨j,hx⟩),outz x hx,m1.ours x (.inl ⟨j,hx⟩)⟩⟩
       by_cases hw:W1 b
       .have hbn:¬Inn (fset f1 j []) b:=by
         -- a list that is zk7 is not another name's
         cases n with
         | l us=>
          cases k2 with
          | l _ _=>exact outz b (k3.subset List.mem_cons_self)
         | t us=>cases k2 with | t nw _ _=>exact absurd hw nw
         | d x=>
          cases k2 with
          | d hd=>cases hd with
           | lst nw _ _=>exact absurd hw nw
           | tup nw _ _=>exact absurd hw nw
           | _=>cases e2
         | _=>cases e2
        exact (m.hand hw hbn).2
       .rw[(m.d b _ hb hw).1,hb]
theorem Kept.back {σ:St} {H0 H1 H2:Hp} {W1 W2:Addr->Prop} {f0 f1 f2:Fp} {A2:Addr->Prop} {rs:Option (Nat×O)} {ρ:Rho} {W0:Addr->Prop} (k:Kept mg K σ H0 f0 H1 W1 f1 rs) (m:Mv (Inn f1) H1 W1 A2 H2 W2) (hA:∀x,Inn f2 x->A2 x) (s:Sl mg K H2 W2 σ ρ f2) (m0:Mv (Inn f0) H0 W0 (Inn f1) H1 W1) :
  ∃f3,Sl mg K H2 W2 σ (ziK rs ρ) f3/\(∀x,A2 x->¬Inn f2 x->¬Inn f3 x)/\Mv (Inn f0) H0 W0 (fun x=>Inn f3 x\/A2 x) H2 W2:=by
 cases rs with
 | none=>exact ⟨f2,s,fun x _ h=>h,(m0.trans m).narrow fun x hx=>hx.elim (hA x) id⟩
 | some z=>
  obtain ⟨i,o⟩:=z;obtain ⟨u,C,h1,h2,h3,h4⟩:=k;have keep:∀x∈C,W2 x/\H2 x=H1 x:=fun x hx=>m.hand (h4 x hx).1 (h4 x hx).2.1
  have away:∀x∈C,¬A2 x:=fun x hx=>m.apart (h4 x hx).1 (h4 x hx).2.1
  refine ⟨fset f2 i C,s.setS h1 (h2.on m.d fun x hx=>(keep x hx).2) h3 fun x hx j _ z=>away x hx (hA x ⟨j,z⟩),fun x ha hn z=>z.set.elim hn fun y=>away x y ha, ?_⟩;have mm:=m0.trans m;exact ⟨mm.same,mm.less,mm.more,fun x hx=>hx.elim (fun z=>z.set.elim (fun y=>mm.ours x (hA x y)) fun y=>(h4 x y).2.2) (mm.ours x),mm.sub,mm.dom,fun x hx=>hx.elim (fun z=>z.set.elim (fun y=>mm.sub' x (hA x y)) fun y=>(keep x y).1) (mm.sub' x),mm.dom'⟩
end
def eLS (I:Rho->Re (Src×Bool)) (js:List 015) (G:GF) (T:TF) (A:EF):EF:=fun ρ=>match I ρ with
 | .bad=>.bad
 | .ex c ρ'=>.ex c ρ'
 | .ok ((items,rs),_) ρ1 q1=>if items.length<=sizeLine then match lcF js G T A items ρ1 [] true with
   | .ok os ρ2 q2=>.ok (.own (.l os)) (ziK rs ρ2) (q1&&q2)
   | _=>.bad
  else .bad
def iLT (K:PySem.W.Frag) (tl:TE):TI:=fun σ H R=>tl σ H fun x H1=>∃(a:Addr) (xs:List V) (k:Bool),x=.ref a/\H1 a=some (if k then .lst xs else .tup xs)/\R (if k then ItL a else Itt K a) H1
theorem zp0 {X:Cx} {tg l:Expr} {tl:TE} (hl:PE X l tl):PI X tg l (iLT X.K tl):=by
 intro pins s σ H R I h;refine thn (hl pins s σ H _ I h) fun v s1 hx__=>?_
 obtain ⟨x,H1,I1,r1,q1⟩:=hx__;obtain ⟨a,xs,k,e,hq,q⟩:=q1;subst e;cases r1
 cases k with
 | true=>
  obtain ⟨its,rv,p,hz⟩:=I1.list (SqL.of hq);refine wpAny_pyIter_list p.isList ?_;refine ⟨s1.heap.objs.size,[s1.heap.objs.size],_,ItL a,H1,rfl,I1.kept (t':=s1.toks) (fun b o e=>Heap.get?_push_of_some _ e),zsW a _,⟨_,Heap.get?_push_size _ rfl,rfl,rfl⟩,fun b hb=>?_,q⟩;obtain rfl:b=s1.heap.objs.size:=by simpa using hb
  exact I1.fpOk 022 (I1.hok.fresh 022)
 | false=>
  obtain ⟨its,rv,p,hz⟩:=I1.tuple (SqT.of hq);refine wpAny_pyIter_tuple (show s1.heap.IsTuple a its.toArray from p) ?_;refine ⟨s1.heap.objs.size,[s1.heap.objs.size],_,_,H1,rfl,I1.kept (t':=s1.toks) fun b o e=>Heap.get?_push_of_some _ e,zkI a _,⟨_,Heap.get?_push_size _ rfl,rfl,rfl⟩,fun b hb=>?_,q⟩;have e:b=s1.heap.objs.size:=by simpa using hb
  subst e;exact I1.fpOk 022 (I1.hok.fresh 022)
section
variable {mg:Str->Option Value} {K:PySem.W.Frag} {E:XK}
theorem zrT {a:Addr} {xs:List V} {ds:List PyData} {k:Bool} {H1:Hp} {W1:Addr->Prop} {f1:Fp} (ha:H1 a=some (if k then .lst xs else .tup xs)) (dn:Dns H1 W1 xs ds) (st:∀H2 W2 A2,Mv (Inn f1) H1 W1 A2 H2 W2->H2 a=H1 a) :
  (∀i H W',(∃A',Mv (Inn f1) H1 W1 A' H W')->i < (ds.map O.d).length->(if k then ItL a else Itt K a).go i H)/\(∀H W',(∃A',Mv (Inn f1) H1 W1 A' H W')->(if k then ItL a else Itt K a).stop (ds.map O.d).length H)/\
  (∀i H W' x H',(∃A',Mv (Inn f1) H1 W1 A' H W')->(∀x,W' x->H x≠none)->i < (ds.map O.d).length->(if k then ItL a else Itt K a).yld i H x H'->Gr H W' [] H' W'/\∃o,(ds.map O.d)[i]? = some o/\Ow mg K H' W' x o []):=by
 refine ⟨fun i H2 W2 ⟨_,mm⟩ hi=>?_,fun H2 W2 ⟨_,mm⟩=>?_,fun i H2 W2 x H3 ⟨_,mm⟩ dd hi y=>?_⟩
 .rw[List.length_map,<-dn.length] at hi;have e:=(st H2 W2 _ mm).trans ha
  cases k with
  | true=>exact ⟨xs,xs[i],e,by simp[hi]⟩
  | false=>exact ⟨xs,xs[i],SqT.of e,by simp[hi]⟩
 .have e:=(st H2 W2 _ mm).trans ha
  cases k with
  | true=>exact ⟨xs,e,by rw[List.length_map,dn.length];exact Nat.le_refl _⟩
  | false=>exact ⟨xs,SqT.of e,by rw[List.length_map,dn.length];exact Nat.le_refl _⟩
 .have e:=(st H2 W2 _ mm).trans ha
  have:H3=H2/\xs[i]? = some x:=by
   cases k with
   | true=>exact ⟨y.1,y.2 xs e⟩
   | false=>exact ⟨y.1,y.2 xs (SqT.of e)⟩
  obtain ⟨rfl,hx⟩:=this;obtain ⟨d,e1,e2⟩:=dn.getV hx;exact ⟨.refl,.d d,by rw[List.getElem?_map,e1];rfl,.d (e2.on mm.d)⟩
theorem zo3 {σ:St} {H:Hp} {W:Addr->Prop} {ρ ρ2:Rho} {f f1:Fp} {Q:VK} {os:List O} {H1:Hp} {W1:Addr->Prop} {q1 q2:Bool} {rs:Option (Nat×O)} (ok:Ok mg K H W σ ρ f) (m1:Mv (Inn f) H W (Inn f1) H1 W1) (k1:q1=true->∀x,Inn f x->H1 x=H x) (kp:Kept mg K σ H f H1 W1 f1 rs)
  (q:∀v H' W' f' B,Sl mg K H' W' σ (ziK rs ρ2) f'->RvOk mg K H' W' σ v (.own (.l os)) B->(∀x∈B,¬Inn f' x)->Mv (Inn f) H W 095 H' W'->((q1&&q2)=true->∀x,Inn f x->H' x=H x)->Q v H') :
  ∀l acc H' W' f' As,H' l=none->Sl mg K H' W' σ ρ2 f'->Ows mg K H' W' acc os As->As.Nodup->(∀x∈As,¬Inn f' x)->Mv (Inn f1) H1 W1 089 H' W'->(q2=true->∀x,Inn f1 x->H' x=H1 x)->Q (.ref l) (upd H' l (.lst acc)):=fun l acc H' W' f' As hl s o nd ap m k=>by
 obtain ⟨f3,s3,ap3,m3⟩:=kp.back m (fun x hx=>.inl hx) s m1;have g:Gr H' W' [l] (upd H' l (.lst acc)) (fun x=>W' x\/x∈[l]):=Gr.newO hl;have hlA:l∉As:=fun z=>m.dom' l (m.sub' l (.inr z)) hl
 have sub3:∀x,Inn f3 x->W' x:=fun x hx=>m3.sub' x (.inl hx)
 refine q (.ref l) _ _ f3 (l::As) (s3.on g.d fun x hx=>g.kept m.dom' (sub3 x hx)) ⟨.l zbu 0003,List.nodup_cons.mpr ⟨hlA,nd⟩⟩ (fun x hx z=>?_) ((m3.trans (g.mv m3.sub' m3.dom')).narrow fun x hx=>?_) fun hq=>g.quiet ok (zg3 ok k1 m k hq)
 .rcases List.mem_cons.mp hx with rfl | hx
  .exact m.dom' x (sub3 x z) hl
  .exact ap3 x (.inr hx) (ap x hx) z
 .rcases hx with hx | hx
  .exact .inl (.inl hx)
  .rcases List.mem_cons.mp hx with rfl | hx
   .exact .inr List.mem_cons_self
   .exact .inl (.inr (.inr hx))
theorem lc_S {view:Bool} {A0 A:EF} {js:List 015} {G:GF} {T:TF} {σ:St} {H:Hp} {Q:VK} (nd:(caps js).Nodup) (h:tR mg K E (eLS (srcM view 001 A0) js G T A) σ H Q):tLC (iLT K (tR mg K E A0)) js (tTg mg K (capL js) G) (tT mg K E0' T) (tR mg K E0' A) σ H Q:=by
 obtain ⟨W,ρ,f,ok,q⟩:=h;refine srcd (view:=view) (mk:=fun ds=>ds.map O.d) ok ?_;unfold eLS at q
 cases ea:srcM view 001 A0 ρ with
 | bad=>rw[ea] at q;exact q
 | ex c ρ'=>rw[ea] at q;exact q
 | ok z ρ1 q1=>
  obtain ⟨⟨items,rs⟩,kd⟩:=z;rw[ea] at q;dsimp only at q ⊢;intro a xs ds H' W' f' s m k ha dn hit st kp
  by_cases hz:items.length<=sizeLine
  .rw[if_pos hz] at q
   cases b:lcF js G T A items ρ1 [] true with
   | bad=>rw[b] at q;exact False.elim q
   | ex c ρ'=>rw[b] at q;exact False.elim q
   | ok os ρ2 q2=>
    rw[b] at q;subst hit;obtain ⟨g1,g2,g3⟩:=zrT (mg:=mg) (K:=K) ha dn st;exact ⟨a,xs,kd,rfl,ha,zjq (items:=ds.map O.d) (.next s m fun _ z=>z) nd (fun k i=>zgd) hz g1 g2 g3 b (zo3 ok m k kp q)⟩
  .rw[if_neg hz] at q;exact False.elim q
end
section
variable {X:Cx} {E:XK} {L:List Nat} {elt tgt iter:Expr} {ifs:List Expr} {scope:Scope} {pos:Pos} {N':List Str} {js:List (Option Nat)} {G:GF} {T:TF} {A A0:EF} {view:Bool}
theorem ziN (view:Bool) (hi:VR X E iter A0) (hc:X.calm=true) (hcap:zh0 X.N X.env.scope N' scope js=true) (hf:zfo X.env.scope scope=true) (hkind:scope.kind=.function) (nd:(caps js).Nodup) (hb:Blk X N' scope js tgt ifs elt G T A)
  (hs:∀x,foldedSetIterable iter X.env x=pure x:=by intro _;rfl):VR X E 017 (eLS (srcM view 001 A0) js G T A):=
 (zqs hc (zp0 hi) hcap zh7 hf hkind hb hs).imp fun σ H Q h=>lc_S nd h
theorem zjf (view:Bool) {i:Nat} {y:Str} {py spos:Pos} (hN:X.N.Nodup) (hiy:X.N[i]? = some y) (hy:Loc X.env.scope y) (hL:i∉L) (hi:VR X E iter A0) (hc:X.calm=true) (hcap:zh0 X.N X.env.scope N' scope js=true) (hf:zfo X.env.scope scope=true) (hkind:scope.kind=.function) (nd:(caps js).Nodup) (hb:Blk X N' scope js tgt ifs elt G T A)
  (hsw:swapsWith 017 (some (.Name y py)) spos.line X.env=pure true:=by rfl) (hs:∀x,foldedSetIterable iter X.env x=pure x:=by intro _;rfl) (hfn:X.fn y=true\/X.env.scope.names.lookup y=some .local:=by first | exact .inl rfl | exact .inr rfl | assumption) :
  VS X E L (.Assign [.Name y py] 017 spos) (sAsg coe (eLS (srcM view 001 A0) js G T A) (gtN i)):=
 (zj6 hN hiy hy hc (zp0 hi) hcap zh7 hf hkind hb hsw hs hfn).imp fun D σ H h=>zsx hL (fun h=>lc_S nd h) h
def zfD (I:Rho->Re (Src×Bool)) (G:GF) (S:SF):SF:=fun ρ=>match I ρ with
 | .bad=>.bad
 | .ex c ρ'=>.ex c ρ'
 | .ok ((items,_),_) ρ' _=>forF G S items ρ'
theorem zlw {body:List Stmt} {S:SF} (hp:PassesOwn 000 X.A X.env X.xe) (hc:X.calm=true) (hi:VR X E iter A) (hg:VG X L tgt G) (hb:VSs X E L body S)
  (hs:∀x,foldedSetIterable iter X.env x=pure x:=by intro _;rfl):VS X E L (.For tgt iter body [] pos) (zfD (srcM false 001 A) G S):=(zjK hp hc (zp0 hi) hg hb hs).imp fun D σ H h=>by
 obtain ⟨W,ρ,f,ok,q⟩:=h.aft;refine srcd (view:=false) (mk:=fun ds=>ds.map O.d) ok ?_;unfold zfD at q
 cases ea:srcM false 001 A ρ with
 | bad=>rw[ea] at q;exact q
 | ex c ρ'=>rw[ea] at q;exact fun H' W' f' s m=>q σ H' W' f' s m .refl
 | ok z ρ1 q1=>
  obtain ⟨⟨items,rs⟩,kd⟩:=z;rw[ea] at q;dsimp only at q ⊢;intro a xs ds H' W' f' s m k ha dn hit st kp;subst hit;obtain ⟨g1,g2,g3⟩:=zrT (mg:=X.mg) (K:=X.K) ha dn st;exact ⟨a,xs,kd,rfl,ha,zf8 (items:=ds.map O.d) (.next s m fun _ z=>z) g1 g2 g3 (q.step m .refl)⟩
end
end L2
namespace L2
open PySem
def eFz (A:EF):EF:=fun ρ=>match A ρ with
 | .ok (.own o) ρ' q=>match fz o with
  | some x=>.ok (.own (.d x)) ρ' q
  | none=>.bad
 | r=>r
theorem ztR {X:Cx} {E:XK} {e:Expr} {A:EF} (h:VR X E e A):VR X E e (eFz A):=h.imp fun σ H Q hx__=>by
 obtain ⟨W,ρ,f,ok,q⟩:=hx__;refine ⟨W,ρ,f,ok, ?_⟩;unfold eFz at q
 cases eA:A ρ with
 | bad=>rw[eA] at q;exact q
 | ex c ρ'=>rw[eA] at q;exact q
 | ok r ρ' b=>
  rw[eA] at q
  cases r with
  | «at» i p=>exact q
  | own o=>
   dsimp only at q ⊢
   cases ef:fz o with
   | none=>rw[ef] at q;exact False.elim q
   | some x=>
    rw[ef] at q;dsimp only at q;intro v H' W' f' B s hr hB m kk;refine q v H' (fun a=>W' a/\a∉B) f' [] (s.on (fun a o ha hw=>⟨ha,fun z=>hw z.1⟩) fun _ _=>rfl) ⟨.d (hr.1.dn (fun a ha=>ha.1) ef fun y hy hw=>hw.2 hy),.nil⟩ (fun x hx=>by cases hx) ⟨m.same,fun x hx=>m.less x hx.1,fun x hx=>?_,fun x hx=>?_,m.sub,m.dom,fun x hx=>?_,fun x hx=>m.dom' x hx.1⟩ kk
    .rcases m.more x hx with a | a
     .exact .inl a
     .by_cases hb:x∈B
      .exact .inl ((m.ours x (.inr hb)).resolve_right fun z=>m.dom x hx z)
      .exact .inr ⟨a,hb⟩
    .rcases hx with hx | hx
     .exact m.ours x (.inl hx)
     .cases hx
    .rcases hx with hx | hx
     .exact ⟨m.sub' x (.inl hx),fun z=>hB x z hx⟩
     .cases hx
section
variable {ρ ρ1:Rho} {A B C:EF} {i:Nat} {x y o:O} {a b:Int}
@[simp] theorem lk0 (a0:O) (l:List O):(a0::l)[0]? = some a0:=rfl
@[simp] theorem st0 (a0 x:O) (l:List O):(a0::l).set 0 x=x::l:=rfl
@[simp] theorem lk1 (a0 a1:O) (l:List O):(a0::a1::l)[1]? = some a1:=rfl
@[simp] theorem st1 (a0 a1 x:O) (l:List O):(a0::a1::l).set 1 x=a0::x::l:=rfl
@[simp] theorem lk2 (a0 a1 a2:O) (l:List O):(a0::a1::a2::l)[2]? = some a2:=rfl
@[simp] theorem st2 (a0 a1 a2 x:O) (l:List O):(a0::a1::a2::l).set 2 x=a0::a1::x::l:=rfl
@[simp] theorem lk3 (a0 a1 a2 a3:O) (l:List O):(a0::a1::a2::a3::l)[3]? = some a3:=rfl
@[simp] theorem st3 (a0 a1 a2 a3 x:O) (l:List O):(a0::a1::a2::a3::l).set 3 x=a0::a1::a2::x::l:=rfl
@[simp] theorem lk4 (a0 a1 a2 a3 a4:O) (l:List O):(a0::a1::a2::a3::a4::l)[4]? = some a4:=rfl
@[simp] theorem st4 (a0 a1 a2 a3 a4 x:O) (l:List O):(a0::a1::a2::a3::a4::l).set 4 x=a0::a1::a2::a3::x::l:=rfl
@[simp] theorem lk5 (a0 a1 a2 a3 a4 a5:O) (l:List O):(a0::a1::a2::a3::a4::a5::l)[5]? = some a5:=rfl
@[simp] theorem st5 (a0 a1 a2 a3 a4 a5 x:O) (l:List O):(a0::a1::a2::a3::a4::a5::l).set 5 x=a0::a1::a2::a3::a4::x::l:=rfl
@[simp] theorem lk6 (a0 a1 a2 a3 a4 a5 a6:O) (l:List O):(a0::a1::a2::a3::a4::a5::a6::l)[6]? = some a6:=rfl
@[simp] theorem st6 (a0 a1 a2 a3 a4 a5 a6 x:O) (l:List O):(a0::a1::a2::a3::a4::a5::a6::l).set 6 x=a0::a1::a2::a3::a4::a5::x::l:=rfl
@[simp] theorem lk7 (a0 a1 a2 a3 a4 a5 a6 a7:O) (l:List O):(a0::a1::a2::a3::a4::a5::a6::a7::l)[7]? = some a7:=rfl
@[simp] theorem st7 (a0 a1 a2 a3 a4 a5 a6 a7 x:O) (l:List O):(a0::a1::a2::a3::a4::a5::a6::a7::l).set 7 x=a0::a1::a2::a3::a4::a5::a6::x::l:=rfl
@[simp] theorem lk8 (a0 a1 a2 a3 a4 a5 a6 a7 a8:O) (l:List O):(a0::a1::a2::a3::a4::a5::a6::a7::a8::l)[8]? = some a8:=rfl
@[simp] theorem st8 (a0 a1 a2 a3 a4 a5 a6 a7 a8 x:O) (l:List O):(a0::a1::a2::a3::a4::a5::a6::a7::a8::l).set 8 x=a0::a1::a2::a3::a4::a5::a6::a7::x::l:=rfl
@[simp] theorem lk9 (a0 a1 a2 a3 a4 a5 a6 a7 a8 a9:O) (l:List O):(a0::a1::a2::a3::a4::a5::a6::a7::a8::a9::l)[9]? = some a9:=rfl
@[simp] theorem st9 (a0 a1 a2 a3 a4 a5 a6 a7 a8 a9 x:O) (l:List O):(a0::a1::a2::a3::a4::a5::a6::a7::a8::a9::l).set 9 x=a0::a1::a2::a3::a4::a5::a6::a7::a8::x::l:=rfl
@[simp] theorem lk10 (a0 a1 a2 a3 a4 a5 a6 a7 a8 a9 a10:O) (l:List O):(a0::a1::a2::a3::a4::a5::a6::a7::a8::a9::a10::l)[10]? = some a10:=rfl
@[simp] theorem st10 (a0 a1 a2 a3 a4 a5 a6 a7 a8 a9 a10 x:O) (l:List O):(a0::a1::a2::a3::a4::a5::a6::a7::a8::a9::a10::l).set 10 x=a0::a1::a2::a3::a4::a5::a6::a7::a8::a9::x::l:=rfl
@[simp] theorem lk11 (a0 a1 a2 a3 a4 a5 a6 a7 a8 a9 a10 a11:O) (l:List O):(a0::a1::a2::a3::a4::a5::a6::a7::a8::a9::a10::a11::l)[11]? = some a11:=rfl
@[simp] theorem st11 (a0 a1 a2 a3 a4 a5 a6 a7 a8 a9 a10 a11 x:O) (l:List O):(a0::a1::a2::a3::a4::a5::a6::a7::a8::a9::a10::a11::l).set 11 x=a0::a1::a2::a3::a4::a5::a6::a7::a8::a9::a10::x::l:=rfl
@[simp] theorem lk12 (a0 a1 a2 a3 a4 a5 a6 a7 a8 a9 a10 a11 a12:O) (l:List O):(a0::a1::a2::a3::a4::a5::a6::a7::a8::a9::a10::a11::a12::l)[12]? = some a12:=rfl
@[simp] theorem st12 (a0 a1 a2 a3 a4 a5 a6 a7 a8 a9 a10 a11 a12 x:O) (l:List O):(a0::a1::a2::a3::a4::a5::a6::a7::a8::a9::a10::a11::a12::l).set 12 x=a0::a1::a2::a3::a4::a5::a6::a7::a8::a9::a10::a11::x::l:=rfl
@[simp] theorem lk13 (a0 a1 a2 a3 a4 a5 a6 a7 a8 a9 a10 a11 a12 a13:O) (l:List O):(a0::a1::a2::a3::a4::a5::a6::a7::a8::a9::a10::a11::a12::a13::l)[13]? = some a13:=rfl
@[simp] theorem st13 (a0 a1 a2 a3 a4 a5 a6 a7 a8 a9 a10 a11 a12 a13 x:O) (l:List O):(a0::a1::a2::a3::a4::a5::a6::a7::a8::a9::a10::a11::a12::a13::l).set 13 x=a0::a1::a2::a3::a4::a5::a6::a7::a8::a9::a10::a11::a12::x::l:=rfl
@[simp] theorem lk14 (a0 a1 a2 a3 a4 a5 a6 a7 a8 a9 a10 a11 a12 a13 a14:O) (l:List O):(a0::a1::a2::a3::a4::a5::a6::a7::a8::a9::a10::a11::a12::a13::a14::l)[14]? = some a14:=rfl
@[simp] theorem st14 (a0 a1 a2 a3 a4 a5 a6 a7 a8 a9 a10 a11 a12 a13 a14 x:O) (l:List O):(a0::a1::a2::a3::a4::a5::a6::a7::a8::a9::a10::a11::a12::a13::a14::l).set 14 x=a0::a1::a2::a3::a4::a5::a6::a7::a8::a9::a10::a11::a12::a13::x::l:=rfl
@[simp] theorem lk15 (a0 a1 a2 a3 a4 a5 a6 a7 a8 a9 a10 a11 a12 a13 a14 a15:O) (l:List O):(a0::a1::a2::a3::a4::a5::a6::a7::a8::a9::a10::a11::a12::a13::a14::a15::l)[15]? = some a15:=rfl
@[simp] theorem st15 (a0 a1 a2 a3 a4 a5 a6 a7 a8 a9 a10 a11 a12 a13 a14 a15 x:O) (l:List O):(a0::a1::a2::a3::a4::a5::a6::a7::a8::a9::a10::a11::a12::a13::a14::a15::l).set 15 x=a0::a1::a2::a3::a4::a5::a6::a7::a8::a9::a10::a11::a12::a13::a14::x::l:=rfl
@[simp] theorem lk16 (a0 a1 a2 a3 a4 a5 a6 a7 a8 a9 a10 a11 a12 a13 a14 a15 a16:O) (l:List O):(a0::a1::a2::a3::a4::a5::a6::a7::a8::a9::a10::a11::a12::a13::a14::a15::a16::l)[16]? = some a16:=rfl
@[simp] theorem st16 (a0 a1 a2 a3 a4 a5 a6 a7 a8 a9 a10 a11 a12 a13 a14 a15 a16 x:O) (l:List O):(a0::a1::a2::a3::a4::a5::a6::a7::a8::a9::a10::a11::a12::a13::a14::a15::a16::l).set 16 x=a0::a1::a2::a3::a4::a5::a6::a7::a8::a9::a10::a11::a12::a13::a14::a15::x::l:=rfl
@[simp] theorem lk17 (a0 a1 a2 a3 a4 a5 a6 a7 a8 a9 a10 a11 a12 a13 a14 a15 a16 a17:O) (l:List O):(a0::a1::a2::a3::a4::a5::a6::a7::a8::a9::a10::a11::a12::a13::a14::a15::a16::a17::l)[17]? = some a17:=rfl
@[simp] theorem st17 (a0 a1 a2 a3 a4 a5 a6 a7 a8 a9 a10 a11 a12 a13 a14 a15 a16 a17 x:O) (l:List O):(a0::a1::a2::a3::a4::a5::a6::a7::a8::a9::a10::a11::a12::a13::a14::a15::a16::a17::l).set 17 x=a0::a1::a2::a3::a4::a5::a6::a7::a8::a9::a10::a11::a12::a13::a14::a15::a16::x::l:=rfl
@[simp] theorem zs9 (S T:SF):sSeq S T ρ=match S ρ with | .nx ρ'=>T ρ' | r=>r:=rfl
@[simp] theorem ztk (take:Rho->Rv->Option (O×Rho)) (G:GF):sAsg take A G ρ=match A ρ with
 | .bad=>.bad
 | .ok r ρ' _=>match take ρ' r with
  | some (o,ρ1)=>match G o ρ1 with
   | some ρ2=>.nx ρ2
   | none=>.bad
  | none=>.bad
 | .ex c ρ'=>.ex c ρ':=rfl
@[simp] theorem ztx (take:Rho->Rv->Option (O×Rho)):sRet take A ρ=match A ρ with
 | .bad=>.bad
 | .ok r ρ' _=>match take ρ' r with
  | some (o,ρ'')=>.rt o ρ''
  | none=>.bad
 | .ex c ρ'=>.ex c ρ':=rfl
@[simp] theorem zuD (T:TF) (S U:SF):sIf T S U ρ=match T ρ with
 | .bad=>.bad
 | .ok b ρ' _=>if b then S ρ' else U ρ'
 | .ex c ρ'=>.ex c ρ':=rfl
@[simp] theorem zrx:zbd A ρ=match A ρ with
 | .bad=>.bad
 | .ok _ ρ' _=>.nx ρ'
 | .ex c ρ'=>.ex c ρ':=rfl
@[simp] theorem ztC:sNil ρ=.nx ρ:=rfl
@[simp] theorem ztE:sBrk ρ=.br ρ:=rfl
@[simp] theorem zrp:ztQ ρ=.rt (.d .none) ρ:=rfl
@[simp] theorem zvx (x:PyData):eC x ρ=.ok (.own (.d x)) ρ true:=rfl
theorem zte (h:ρ[i]? = some o) (nz:o≠.z):zaa i ρ=.ok (.at i []) ρ true:=by
 unfold zaa;rw[h]
 cases o<;>first | rfl | exact absurd rfl nz
@[simp] theorem zqN:zaa i ρ=match ρ[i]? with | some .z=>.bad | some _=>.ok (.at i []) ρ true | none=>.bad:=rfl
@[simp] theorem vn_d (x:PyData):vn ρ (.own (.d x))=some (.d x):=rfl
@[simp] theorem vn_l (xs:List O):vn ρ (.own (.l xs))=some (.l xs):=rfl
@[simp] theorem vn_t (xs:List O):vn ρ (.own (.t xs))=some (.t xs):=rfl
def nz:Option O->Option O
 | some .z=>none
 | o=>o
@[simp] theorem nz_d (x:PyData):nz (some (.d x))=some (.d x):=rfl
@[simp] theorem nz_l (x:List O):nz (some (.l x))=some (.l x):=rfl
@[simp] theorem nz_t (x:List O):nz (some (.t x))=some (.t x):=rfl
@[simp] theorem nz_q (x:List V):nz (some (.q x))=some (.q x):=rfl
@[simp] theorem nz_x (x:Str):nz (some (.x x))=some (.x x):=rfl
@[simp] theorem nz_z:nz (some .z)=none:=rfl
@[simp] theorem ztI:nz none=none:=rfl
theorem zsZ:vw ρ (.at i [])=ρ[i]? := by
 rw[vw];split
 .rename_i o h;rw[h]
  cases o<;>rfl
 .rename_i h;rw[h]
@[simp] theorem zoD:vn ρ (.at i [])=nz ρ[i]? := by
 unfold vn;rw[zsZ]
 cases h:ρ[i]? with
 | none=>rfl
 | some o=>cases o<;>rfl
@[simp] theorem zuj {q:Bool}:pok ρ q (.own o)=true:=rfl
@[simp] theorem ztO {q:Bool}:pok ρ q (.at i [])=true:=rfl
@[simp] theorem zvy (F:O->O->Option O):e2 A B F ρ=(A ρ).bind fun ra ρ1 q1=>(B ρ1).bind fun rb ρ2 q2=>
 if pok ρ1 q2 ra then match vn ρ2 ra,vn ρ2 rb with
  | some x,some y=>match F x y with
   | some z=>.ok (.own z) ρ2 (q1&&q2)
   | none=>.bad
  | _,_=>.bad
 else .bad:=rfl
@[simp] theorem zvp (F:O->Option O):e1 A F ρ=(A ρ).bind fun ra ρ1 q1=>match vn ρ1 ra with
 | some x=>match F x with
  | some z=>.ok (.own z) ρ1 q1
  | none=>.bad
 | none=>.bad:=rfl
@[simp] theorem zuS:tst A ρ=match A ρ with
 | .bad=>.bad
 | .ex c ρ'=>.ex c ρ'
 | .ok r ρ' q=>match vn ρ' r with
  | some (.d (.bool b))=>.ok b ρ' q
  | _=>.bad:=rfl
@[simp] theorem ztX {α:Type} (dec:O->Option α):eSc dec A ρ=(A ρ).bind fun r ρ' q=>match vn ρ' r with
 | some o=>match dec o with
  | some a=>.ok a ρ' q
  | none=>.bad
 | none=>.bad:=rfl
@[simp] theorem zvv:decI ⇑a=some a:=rfl
@[simp] theorem zvz (b:Bool):decB (.d (.bool b))=some b:=rfl
@[simp] theorem zvb (s:Str):decS (.d (.str s))=some s:=rfl
@[simp] theorem ztb {α:Type} (a:α):gRet a ρ=.ok a ρ true:=rfl
@[simp] theorem zsu {α β:Type} (G:Rho->Re α) (F:α->Rho->Re β):zb6 G F ρ=(G ρ).bind fun a ρ1 q1=>(F a ρ1).bind fun b ρ2 q2=>.ok b ρ2 (q1&&q2):=rfl
@[simp] theorem zqO {α:Type} (G:Rho->Re α) (F:α->EF):zi8 G F ρ=(G ρ).bind fun a ρ1 q1=>(F a ρ1).bind fun b ρ2 q2=>.ok b ρ2 (q1&&q2):=rfl
@[simp] theorem ztn (G:TF):eOfB G ρ=(G ρ).bind fun b ρ' q=>.ok (.own (.d (.bool b))) ρ' q:=rfl
@[simp] theorem zts:eAnd A B ρ=eOfB (zb6 (eSc decB A) fun c=>if c then eSc decB B else gRet false) ρ:=rfl
@[simp] theorem zuU:eOr A B ρ=eOfB (zb6 (eSc decB A) fun c=>if c then gRet true else eSc decB B) ρ:=rfl
@[simp] theorem ztF:eNot A ρ=eOfB (zb6 (eSc decB A) fun c=>gRet (!c)) ρ:=rfl
@[simp] theorem zuv (S:TF):eIf S A B ρ=zi8 S (fun c=>if c then A else B) ρ:=rfl
@[simp] theorem zti (S T:TF):gAnd S T ρ=zb6 S (fun c=>if c then T else gRet false) ρ:=rfl
@[simp] theorem zt4 (S T:TF):gOr S T ρ=zb6 S (fun c=>if c then gRet true else T) ρ:=rfl
@[simp] theorem ztd (S:TF):gNot S ρ=zb6 S (fun c=>gRet (!c)) ρ:=rfl
@[simp] theorem zqz (p q:Int->Int->Bool):zdG A B C p q ρ=zb6 (eSc decI A) (fun a=>zb6 (eSc decI B) fun b=>if p a b then zb6 (eSc decI C) fun c=>gRet (q b c) else gRet false) ρ:=rfl
@[simp] theorem ztu:aNil ρ=.ok [] ρ true:=rfl
@[simp] theorem zrr (R:AF):zac A R ρ=(A ρ).bind fun r ρ1 q1=>(R ρ1).bind fun rs ρ2 q2=>if pok ρ1 q2 r then .ok (r::rs) ρ2 (q1&&q2) else .bad:=rfl
@[simp] theorem zvs (R:AF) (F:List O->Option O):eB R F ρ=(R ρ).bind fun rs ρ1 q=>match vns ρ1 rs with
 | some os=>match F os with
  | some z=>.ok (.own z) ρ1 q
  | none=>.bad
 | none=>.bad:=rfl
@[simp] theorem ztL:vns ρ []=some []:=rfl
@[simp] theorem ztf (r:Rv) (rs:List Rv):vns ρ (r::rs)=match vn ρ r,vns ρ rs with | some o,some os=>some (o::os) | _,_=>none:=rfl
@[simp] theorem zvl (F:O->Option O):f1 F [o]=F o:=rfl
@[simp] theorem zu8 (F:Int->Int->Int):f2I F [⇑a,⇑b]=some ⇑(F a b):=rfl
@[simp] theorem zuq:coe ρ (.own o)=some (o,ρ):=rfl
@[simp] theorem zu4:mov ρ (.own o)=some (o,ρ):=rfl
@[simp] theorem ztZ:mov ρ (.at i [])=match ρ[i]? with | some .z=>none | some o=>some (o,ρ.set i .z) | none=>none:=rfl
@[simp] theorem zuw:sub [] o=some o:=by cases o<;>rfl
@[simp] theorem zuG:coe ρ (.at i [])=match ρ[i]? with
  | some (.d x)=>some (.d x,ρ)
  | some (.x c)=>some (.x c,ρ)
  | some (.g o)=>some (.g o,ρ)
  | some (.q o)=>some (.q o,ρ)
  | some o=>match fz o with
   | some x=>some (.d x,ρ.set i (.d x))
   | none=>none
  | none=>none:=by
 rw[coe]
 cases ρ[i]? with
 | none=>rfl
 | some o=>
  cases o with
  | l xs=>simp;cases fz (.l xs)<;>rfl
  | t xs=>simp;cases fz (.t xs)<;>rfl
  | z=>rfl
  | _=>rfl
@[simp] theorem ztl:coes ρ []=some ([],ρ):=rfl
@[simp] theorem zrW (r:Rv) (rs:List Rv):coes ρ (r::rs)=match coe ρ r with
  | some (o,ρ1)=>match coes ρ1 rs with
   | some (os,ρ2)=>some (o::os,ρ2)
   | none=>none
  | none=>none:=rfl
@[simp] theorem ztA:movs ρ []=some ([],ρ):=rfl
@[simp] theorem zrz (r:Rv) (rs:List Rv):movs ρ (r::rs)=match mov ρ r with
  | some (o,ρ1)=>match movs ρ1 rs with
   | some (os,ρ2)=>some (o::os,ρ2)
   | none=>none
  | none=>none:=rfl
@[simp] theorem zvj:(0:Nat)<=sizeLine:=by decide
@[simp] theorem zvd:(1:Nat)<=sizeLine:=by decide
@[simp] theorem zvc:(2:Nat)<=sizeLine:=by decide
@[simp] theorem zvr:(3:Nat)<=sizeLine:=by decide
@[simp] theorem zvh:(4:Nat)<=sizeLine:=by decide
@[simp] theorem zvo:(5:Nat)<=sizeLine:=by decide
theorem zbW {n:Nat} (h:n<=16777216):n<=sizeLine:=by rw[sizeLine_eq];exact h
theorem zej {n:Nat} (h:n < 16777216):n < sizeLine:=by rw[sizeLine_eq];exact h
@[simp] theorem zsK (take:Rho->List Rv->Option (List O×Rho)) (mk:List O->O) (R:AF):zaA take mk R ρ=(R ρ).bind fun rs ρ1 q=>match take ρ1 rs with
 | some (os,ρ2)=>if os.length<=sizeLine then .ok (.own (mk os)) ρ2 q else .bad
 | none=>.bad:=rfl
@[simp] theorem zt8:gtN i o ρ=if i < ρ.length then some (ρ.set i o) else none:=rfl
@[simp] theorem zrB:zaV [] ρ=some ρ:=rfl
@[simp] theorem zqF (G:GF) (R:List O->Rho->Option Rho) (os:List O):zaf G R (o::os) ρ=match G o ρ with | some ρ1=>R os ρ1 | none=>none:=rfl
@[simp] theorem ztN (R:List O->Rho->Option Rho):gtT R o ρ=match els o with | some (false,os)=>R os ρ | _=>none:=rfl
@[simp] theorem ztt (ds:List PyData):els (.d (.list ds))=some (true,ds.map O.d):=rfl
@[simp] theorem zq1 (ds:List PyData):els (.d (.tuple ds))=some (false,ds.map O.d):=rfl
@[simp] theorem zvM (os:List O):els (.l os)=some (true,os):=rfl
@[simp] theorem zvK (os:List O):els (.t os)=some (false,os):=rfl
@[simp] theorem zui:els ⇑a=none:=rfl
@[simp] theorem zta (b:Bool):els (.d (.bool b))=none:=rfl
@[simp] theorem ztm:els (.d .none)=none:=rfl
@[simp] theorem zt3 (s:Str):els (.d (.str s))=none:=rfl
@[simp] theorem zvI (s:List V):els (.q s)=none:=rfl
@[simp] theorem zcJ:eIx A B ρ=(A ρ).bind fun ra ρ1 q1=>(eSc decI B ρ1).bind fun i ρ2 q2=>if pok ρ1 q2 ra then match gIx ρ2 ra i with
 | some r=>.ok r ρ2 (q1&&q2)
 | none=>.bad
 else .bad:=rfl
@[simp] theorem zqR:fAdd ⇑a ⇑b=some ⇑(a+b):=rfl
@[simp] theorem zvk:fSub ⇑a ⇑b=some ⇑(a - b):=rfl
@[simp] theorem zvw:fNeg ⇑a=some ⇑(-a):=rfl
@[simp] theorem zvP:fLt ⇑a ⇑b=some (.d (.bool (decide (a < b)))):=rfl
@[simp] theorem zuM:fLe ⇑a ⇑b=some (.d (.bool (decide (a<=b)))):=rfl
@[simp] theorem zuL:fGt ⇑a ⇑b=some (.d (.bool (decide (b < a)))):=rfl
@[simp] theorem zvJ:fGe ⇑a ⇑b=some (.d (.bool (decide (b<=a)))):=rfl
theorem ziL (h1:-18446744073709551616 < b) (h2:b < 18446744073709551616):fMul ⇑a ⇑b=some ⇑(a * b):=by
 unfold fMul;exact if_pos (.inr ⟨by omega,by omega⟩)
theorem zin (h1:-18446744073709551616 < a) (h2:a < 18446744073709551616):fMul ⇑a ⇑b=some ⇑(a * b):=by
 unfold fMul;exact if_pos (.inl ⟨by omega,by omega⟩)
theorem zfu (h:0 < b):fMod ⇑a ⇑b=some ⇑(a % b):=by
 show (gC (fun _ j=>0 < j) (fun a b=>a % b) a b).map O.d=_;unfold gC;rw[if_pos h];rfl
theorem zlQ (h:0 < b) (h2:b < 1606938044258990275541962092341162602522202993782792835301376):fDiv ⇑a ⇑b=some ⇑(a / b):=by
 show (gC zkX (fun a b=>a / b) a b).map O.d=_;unfold gC;rw[if_pos (show zkX a b from ⟨h,by omega⟩)];rfl
theorem zkE (h:0 < b) (h2:b < 1267650600228229401496703205376):fDiv ⇑a ⇑b=some ⇑(a / b):=zlQ h (Int.lt_trans h2 (by decide))
theorem zu6 (h0:0<=b) (h1:b<=1000000) (h2:a.natAbs < 18446744073709551616):fPow ⇑a ⇑b=some ⇑(a ^ b.toNat):=by
 show (gC CPow (fun a b=>a ^ b.toNat) a b).map O.d=_;unfold gC;rw[if_pos (show CPow a b from ⟨h0,h1,by omega⟩)];rfl
@[simp] theorem zph:zkH ⇑a=some ⇑(Builtin.Int.intBits a):=rfl
@[simp] theorem zt9:zlB ⇑a=some ⇑a:=rfl
@[simp] theorem zu0 (b:Bool):zlB (.d (.bool b))=some ⇑(if b then 1 else 0):=rfl
@[simp] theorem zvf (U:String):fIsi U ⇑a=some (.d (.bool (subT "int" U))):=rfl
@[simp] theorem zvm (U:String) (b:Bool):fIsi U (.d (.bool b))=some (.d (.bool (subT "bool" U))):=rfl
@[simp] theorem zvi (U:String):fIsi U (.d .none)=some (.d (.bool (subT "NoneType" U))):=rfl
@[simp] theorem zvA (U:String) (s:Str):fIsi U (.d (.str s))=some (.d (.bool (subT "str" U))):=rfl
@[simp] theorem zq2 (U:String) (s:List PyData):fIsi U (.d (.list s))=some (.d (.bool (subT "list" U))):=rfl
@[simp] theorem ztw (U:String) (s:List PyData):fIsi U (.d (.tuple s))=some (.d (.bool (subT "tuple" U))):=rfl
@[simp] theorem zvB (U:String) (s:List O):fIsi U (.l s)=some (.d (.bool (subT "list" U))):=rfl
@[simp] theorem zve (U:String) (s:List O):fIsi U (.t s)=some (.d (.bool (subT "tuple" U))):=rfl
@[simp] theorem zt7 (A:EF) (ρ:Rho):eFz A ρ=match A ρ with
 | .ok (.own o) ρ' q=>match fz o with
  | some x=>.ok (.own (.d x)) ρ' q
  | none=>.bad
 | r=>r:=rfl
@[simp] theorem fz_d (x:PyData):fz (.d x)=some x:=by rw[fz]
@[simp] theorem zhR (xs:List PyData):fz (.l (xs.map O.d))=some (.list xs):=by rw[fz,zrQ];rfl
@[simp] theorem zuE (xs:List PyData):lds (xs.map O.d)=some xs:=zd9 xs
@[simp] theorem zth:fLen o=match els o with | some (_,os)=>some ⇑os.length | none=>znT o:=rfl
@[simp] theorem zuJ (xs:List V):znT (.q xs)=some ⇑xs.length:=rfl
@[simp] theorem zq7 (ms:List Bool) (F:FC) (R:AF):zah ms F R ρ=(R ρ).bind fun rs ρ1 q=>match pass ms rs ρ1 with
 | some (os,is,ρ2)=>match F os with
  | .bad=>.bad
  | .ok o outs=>if ms.all (fun m=>!m)&&scl o then .ok (.own o) ρ1 false else .ok (.own o) (zeU is outs ρ2) false
  | .ex c outs=>.ex c (zeU is outs ρ2)
 | none=>.bad:=rfl
@[simp] theorem ztg:pass [] [] ρ=some ([],[],ρ):=rfl
@[simp] theorem zuc (ms:List Bool) (r:Rv) (rs:List Rv):pass (false::ms) (r::rs) ρ=match coe ρ r with
  | some (o,ρ1)=>match pass ms rs ρ1 with
   | some (os,is,ρ2)=>some (o::os,is,ρ2)
   | none=>none
  | none=>none:=rfl
@[simp] theorem zt5 (ms:List Bool) (rs:List Rv):pass (true::ms) (.at i []::rs) ρ=match ρ[i]? with
  | some .z=>none
  | some o=>match pass ms rs (ρ.set i .z) with
   | some (os,is,ρ2)=>some (o::os,i::is,ρ2)
   | none=>none
  | none=>none:=rfl
@[simp] theorem zri (os:List O):zeU [] os ρ=ρ:=by unfold zeU;rfl
@[simp] theorem zqD (is:List Nat) (os:List O):zeU (i::is) (o::os) ρ=zeU is os (ρ.set i o):=rfl
@[simp] theorem zus:scl ⇑a=true:=rfl
@[simp] theorem ztc (b:Bool):scl (.d (.bool b))=true:=rfl
@[simp] theorem ztz:scl (.d .none)=true:=rfl
@[simp] theorem zt6 (s:Str):scl (.d (.str s))=true:=rfl
@[simp] theorem ztq (s:List PyData):scl (.d (.list s))=false:=rfl
@[simp] theorem zu2 (s:List PyData):scl (.d (.tuple s))=false:=rfl
@[simp] theorem zvQ (s:List O):scl (.l s)=false:=rfl
@[simp] theorem zvG (s:List O):scl (.t s)=false:=rfl
@[simp] theorem zuo (ms:List Bool):zcu (true::ms) (o::ρ)=o::zcu ms ρ:=rfl
@[simp] theorem zuX (ms:List Bool):zcu (false::ms) (o::ρ)=zcu ms ρ:=rfl
@[simp] theorem zrG:zcu [] ρ=[]:=by unfold zcu;rfl
@[simp] theorem znx (ms:List Bool) (n:Nat) (S:SF) (os:List O):runF ms n S os=match S (os++List.replicate (n - os.length) .z) with
 | .nx ρ'=>.ok 042 (zcu ms ρ')
 | .rt o ρ'=>.ok o (zcu ms ρ')
 | .ex c ρ'=>.ex c (zcu ms ρ')
 | _=>.bad:=rfl
@[simp] theorem zua (neg:Bool):fIs neg x y=if isN y&&!isZ x then some (.d (.bool (if neg then !isN x else isN x))) else none:=rfl
@[simp] theorem zty:isN (.d .none)=true:=rfl
@[simp] theorem zur:isN ⇑a=false:=rfl
@[simp] theorem ztD (s:List PyData):isN (.d (.list s))=false:=rfl
@[simp] theorem ztS (s:List PyData):isN (.d (.tuple s))=false:=rfl
@[simp] theorem zvR (s:List O):isN (.l s)=false:=rfl
@[simp] theorem zvF (s:List O):isN (.t s)=false:=rfl
@[simp] theorem zvS (s:Bool):isN (.d (.bool s))=false:=rfl
@[simp] theorem zvT (s:Str):isN (.d (.str s))=false:=rfl
@[simp] theorem zvD (x:PyData):isZ (.d x)=false:=rfl
@[simp] theorem zvN (s:List O):isZ (.l s)=false:=rfl
@[simp] theorem zvO (s:List O):isZ (.t s)=false:=rfl
end
section
variable {A B C:EF} {AA:AF} {ρ ρ1 ρ2 ρ3 ρ4:Rho} {r ra rb:Rv} {rs:List Rv} {q q1 q2 q3:Bool} {o x y z:O} {os outs:List O} {is:List Nat} {ms:List Bool} {F:FC} {S T U:SF} {R:Rt} {V W:TF} {b c:Bool}
theorem hide {G:Prop} (h:∀P:Prop,(G->P)->P):G:=h G id
theorem zag (h:S ρ=.nx ρ1) (k:T ρ1=R):sSeq S T ρ=R:=by unfold sSeq;rw[h];exact k
theorem zdQ (h:S ρ=.rt o ρ1):sSeq S T ρ=.rt o ρ1:=by unfold sSeq;rw[h]
theorem zap {take:Rho->Rv->Option (O×Rho)} {G:GF} (h:A ρ=.ok r ρ1 q) (ht:take ρ1 r=some (o,ρ2)) (hg:G o ρ2=some ρ3):sAsg take A G ρ=.nx ρ3:=by
 unfold sAsg;rw[h];dsimp only;rw[ht];dsimp only;rw[hg]
theorem zaN (hA:AA ρ=.ok rs ρ1 q) (hp:pass ms rs ρ1=some (os,is,ρ2)) (hF:F os=.ok o outs) (hs:(ms.all (fun m=>!m)&&scl o)=true):zah ms F AA ρ=.ok (.own o) ρ1 false:=by
 unfold zah;rw[hA];dsimp only[Re.bind];rw[hp];dsimp only;rw[hF];dsimp only;rw[if_pos hs]
theorem zaI (hA:AA ρ=.ok rs ρ1 q) (hp:pass ms rs ρ1=some (os,is,ρ2)) (hF:F os=.ok o outs) (hs:(ms.all (fun m=>!m)&&scl o)=false) (hb:zeU is outs ρ2=ρ3):zah ms F AA ρ=.ok (.own o) ρ3 false:=by
 unfold zah;rw[hA];dsimp only[Re.bind];rw[hp];dsimp only;rw[hF];dsimp only;rw[if_neg (by rw[hs];simp),hb]
theorem zab (h:A ρ=.ok r ρ1 q1) (k:AA ρ1=.ok rs ρ2 q2) (p:pok ρ1 q2 r=true):zac A AA ρ=.ok (r::rs) ρ2 (q1&&q2):=by
 unfold zac;rw[h];dsimp only[Re.bind];rw[k];dsimp only[Re.bind];rw[if_pos p]
theorem zal {f:O->O->Option O} (h:A ρ=.ok ra ρ1 q1) (k:B ρ1=.ok rb ρ2 q2) (p:pok ρ1 q2 ra=true) (hx:vn ρ2 ra=some x) (hy:vn ρ2 rb=some y) (hf:f x y=some z):e2 A B f ρ=.ok (.own z) ρ2 (q1&&q2):=by
 unfold e2;rw[h];dsimp only[Re.bind];rw[k];dsimp only[Re.bind];rw[if_pos p,hx,hy];dsimp only;rw[hf]
theorem zpN {f:O->Option O} (h:A ρ=.ok ra ρ1 q1) (hx:vn ρ1 ra=some x) (hf:f x=some z):e1 A f ρ=.ok (.own z) ρ1 q1:=by
 unfold e1;rw[h];dsimp only[Re.bind];rw[hx];dsimp only;rw[hf]
theorem zgT {f:List O->Option O} (h:AA ρ=.ok rs ρ1 q1) (hx:vns ρ1 rs=some os) (hf:f os=some z):eB AA f ρ=.ok (.own z) ρ1 q1:=by
 unfold eB;rw[h];dsimp only[Re.bind];rw[hx];dsimp only;rw[hf]
theorem zaw {take:Rho->List Rv->Option (List O×Rho)} {mk:List O->O} (h:AA ρ=.ok rs ρ1 q1) (ht:take ρ1 rs=some (os,ρ2)) (hl:os.length<=sizeLine) (hm:mk os=o):zaA take mk AA ρ=.ok (.own o) ρ2 q1:=by
 unfold zaA;rw[h];dsimp only[Re.bind];rw[ht];dsimp only;rw[if_pos hl,hm]
theorem zaC {α:Type} {dec:O->Option α} {a:α} (h:A ρ=.ok r ρ1 q) (hx:vn ρ1 r=some x) (hd:dec x=some a):eSc dec A ρ=.ok a ρ1 q:=by
 unfold eSc;rw[h];dsimp only[Re.bind];rw[hx];dsimp only;rw[hd]
theorem zbt {i:Int} (h:A ρ=.ok ra ρ1 q1) (k:eSc decI B ρ1=.ok i ρ2 q2) (p:pok ρ1 q2 ra=true) (g:gIx ρ2 ra i=some r):eIx A B ρ=.ok r ρ2 (q1&&q2):=by
 unfold eIx;rw[h];dsimp only[Re.bind];rw[k];dsimp only[Re.bind];rw[if_pos p,g]
theorem zaq (h:A ρ=.ok r ρ1 q) (hv:vn ρ1 r=some 085):tst A ρ=.ok b ρ1 q:=by
 unfold tst;rw[h];dsimp only;rw[hv]
theorem zbX {α β:Type} {G:Rho->Re α} {H:α->Rho->Re β} {a:α} {d:β} (h:G ρ=.ok a ρ1 q1) (k:H a ρ1=.ok d ρ2 q2):zb6 G H ρ=.ok d ρ2 (q1&&q2):=by
 unfold zb6;rw[h];dsimp only[Re.bind];rw[k]
theorem zho (h:V ρ=.ok true ρ1 q):gNot V ρ=.ok false ρ1 (q&&true):=zbX h rfl
theorem zuA (h:V ρ=.ok false ρ1 q):gNot V ρ=.ok true ρ1 (q&&true):=zbX h rfl
theorem or_f (h:V ρ=.ok false ρ1 q1) (k:W ρ1=.ok c ρ2 q2):gOr V W ρ=.ok c ρ2 (q1&&q2):=zbX h k
theorem or_t (h:V ρ=.ok true ρ1 q1):gOr V W ρ=.ok true ρ1 (q1&&true):=zbX h rfl
theorem zek (h:V ρ=.ok true ρ1 q1) (k:W ρ1=.ok c ρ2 q2):gAnd V W ρ=.ok c ρ2 (q1&&q2):=zbX h k
theorem if_f (h:V ρ=.ok false ρ1 q) (k:T ρ1=R):sIf V S T ρ=R:=by unfold sIf;rw[h];exact k
theorem if_t (h:V ρ=.ok true ρ1 q) (k:S ρ1=R):sIf V S T ρ=R:=by unfold sIf;rw[h];exact k
theorem zaL {take:Rho->Rv->Option (O×Rho)} (h:A ρ=.ok r ρ1 q) (ht:take ρ1 r=some (o,ρ2)):sRet take A ρ=.rt o ρ2:=by
 unfold sRet;rw[h];dsimp only;rw[ht]
theorem za6 (h:A ρ=.ok r ρ1 q):zbd A ρ=.nx ρ1:=by unfold zbd;rw[h]
theorem zl7 (h:V ρ=.ok b ρ1 q):eOfB V ρ=.ok (.own 085) ρ1 q:=by unfold eOfB;rw[h];rfl
theorem zk6 (h:eSc decB A ρ=.ok true ρ1 q1) (k:eSc decB B ρ1=.ok c ρ2 q2):eAnd A B ρ=.ok (.own (.d (.bool c))) ρ2 (q1&&q2):=zl7 (zbX h k)
theorem zeK (h:C ρ=.ok ra ρ1 q1) (l:isL ρ1 ra=true) (k:A ρ1=.ok rb ρ2 q2) (p:pok ρ1 q2 ra=true) (ht:coe ρ2 rb=some (o,ρ3)) (hp:zeI ρ3 ra (fun os=>if os.length < sizeLine then some (os++[o]) else none)=some ρ4):eApp C A ρ=.ok (.own 042) ρ4 false:=by
 unfold eApp;rw[h];dsimp only[Re.bind];rw[if_pos l,k];dsimp only[Re.bind];rw[if_pos p,ht];dsimp only;rw[hp]
theorem zgR {I:Rho->Re (List O)} {G:GF} {items:List O} (h:I ρ=.ok items ρ1 q) (k:forF G S items ρ1=R):sFor I G S ρ=R:=by unfold sFor;rw[h];exact k
theorem zg0 {j:Int} {n:Nat} (h:eSc decI A ρ=.ok j ρ1 q) (ok:okR j=true) (hn:j.toNat=n):itR1 A ρ=.ok (rngO 0 n) ρ1 q:=by unfold itR1;rw[h];dsimp only[Re.bind];rw[if_pos ok,hn]
theorem zmK {I:Rho->Re (List O)} {js:List 015} {G:GF} {items:List O} (h:I ρ=.ok items ρ1 q1) (hl:items.length<=sizeLine) (k:lcF js G V A items ρ1 [] true=.ok os ρ2 q2):eLC I js G V A ρ=.ok (.own (.l os)) ρ2 (q1&&q2):=by
 unfold eLC;rw[h];dsimp only;rw[if_pos hl,k]
theorem zgX {i:Nat} {xs:List O} {d:PyData} (h:ρ[i]? = some (.l xs)) (f:fz (.l xs)=some d):coe ρ (.at i [])=some (.d d,ρ.set i (.d d)):=by simp[coe,h,sub,f]
theorem zd4 (h:coe ρ r=some (o,ρ1)) (k:pass ms rs ρ1=some (os,is,ρ2)):pass (false::ms) (r::rs) ρ=some (o::os,is,ρ2):=by unfold pass;rw[h];dsimp only;rw[k]
theorem zmm (h:coe ρ r=some (o,ρ1)) (k:coes ρ1 rs=some (os,ρ2)):coes ρ (r::rs)=some (o::os,ρ2):=by unfold coes;rw[h];dsimp only;rw[k]
theorem zaY {n:Nat} {ρ0:Rho} (h0:os++List.replicate (n - os.length) .z=ρ0) (h:S ρ0=.rt o ρ1) (hl:zcu ms ρ1=outs):runF ms n S os=.ok o outs:=by
 unfold runF;rw[h0,h];dsimp only;rw[hl]
theorem zik {n:Nat} {i:Int} (h0:0<=i) (h1:i < n):ixN n i=some i.toNat:=by unfold ixN;rw[if_pos h0,if_pos h1]
theorem zhE {xs:List O} {k:Nat} {i:Int} {d:PyData} (hj:xs[i.toNat]? = some (.d d)) (h0:0<=i) (h1:i < xs.length) (hk:ρ[k]? = some (.l xs)):gIx ρ (.at k []) i=some (.own (.d d)):=by
 unfold gIx;simp[nz,vn,vw,hk,sub,els,zik h0 h1,hj,ze0]
theorem zj9 {xs:List O} {i:Int} {d:PyData} (hj:xs[i.toNat]? = some (.d d)) (h0:0<=i) (h1:i < xs.length):gIx ρ (.own (.l xs)) i=some (.own (.d d)):=by
 unfold gIx;simp[nz,vn,vw,els,zik h0 h1,hj,ze0]
theorem zcj {xs:List O} {k:Nat} (hk:ρ[k]? = some (.l xs)) (hl:xs.length < sizeLine):zeI ρ (.at k []) (fun os=>if os.length < sizeLine then some (os++[o]) else none)=some (ρ.set k (.l (xs++[o]))):=by
 unfold zeI;simp[hk,sub,put,hl]
theorem zoR {n:Nat} {ρ0:Rho} (h0:os++List.replicate (n - os.length) .z=ρ0) (h:S ρ0=.nx ρ1) (hl:zcu ms ρ1=outs):runF ms n S os=.ok 042 outs:=by
 unfold runF;rw[h0,h];dsimp only;rw[hl]
end
end L2
namespace L2
open PySem PySem.Spec PyProof.Rows
section
variable {mg:Str->Option Value} {K:PySem.W.Frag} {H H':Hp} {W W':Addr->Prop}
theorem Ows.lend:∀{vs:List V} {os:List O} {As:List Addr} {k:Nat} {o:O},Ows mg K H W vs os As->os[k]? = some o->∃w A Bs,vs[k]? = some w/\Ow mg K H W w o A/\Ows mg K H W vs (os.set k .z) Bs/\(A++Bs).Perm As
 | _,_,_,_,_,.nil,e=>by simp at e
 | _,_,_,0,_,.cons (A:=A) (B:=D) a b,e=>by
  simp at e;subst e;exact ⟨_,A,D,rfl,a,.cons (A:=[]) (.z _) b,List.Perm.refl _⟩
 | _,_,_,k+1,o,.cons (A:=A0) (B:=D) a b,e=>by
  obtain ⟨w,A,Bs,h1,h2,h3,h4⟩:=Ows.lend (k:=k) b (by simpa using e);refine ⟨w,A,A0++Bs,by simpa using h1,h2,by simpa using Ows.cons a h3, ?_⟩;rw[<-List.append_assoc];exact ((List.perm_append_comm (l₁:=A) (l₂:=A0)).append_right Bs).trans (by rw[List.append_assoc];exact h4.append_left A0)
end
section
variable {mg:Str->Option Value} {K:PySem.W.Frag} {E:XK} {L:List Nat}
end
section
variable {X:Cx} {E:XK} {L:List Nat}
end
section
variable {X:Cx}
end
def sBad:SF:=fun _=>.bad
section
variable {X:Cx} {E:XK} {L:List Nat}
theorem zfd {st:Stmt}:VS X E L st sBad:=fun _ _ _ _ _ _ h=>by
 obtain ⟨_,_,_,_,q⟩:=h;exact False.elim q
theorem zo8 {st:List Stmt}:VSs X E L st sBad:=fun _ _ _ _ _ _ h=>by
 obtain ⟨_,_,_,_,q⟩:=h;exact False.elim q
end
end L2
noncomputable section
namespace My
open PySem L2
def zfg:SF:=(sSeq (sIf (tst (e2 (zaa 1) (eB 030 (f1 fLen)) fLt)) (sRet mov (eIx (zaa 0) (zaa 1))) sNil)
  (sRet mov ↥0))
def zc9:FC:=runF 06 2 zfg
def zd1:SF:=(sSeq (sAsg coe (zah 06 zc9 006) (gtN 2))
  (sRet coe (zaA coes .l (zac (eB (zac (e2 (zaa 2) (e2 ↥10 ↥18 fPow) fSub) (zac ↥0 aNil)) (f2I fun i j=>if j > i then j else i)) (zac (e2 (zaa 2) ↥2147483647 fMod) (zac (e2 ↥1000 (zaa 1) fMul) aNil))))))
def zbS:FC:=runF 06 3 zd1
def zd6:SF:=(sSeq (sAsg coe (e2 (e2 (e2 (e2 (e2 (zaa 0) ↥1103515245 fMul) (e2 (e2 ↥7919 (zaa 1) fMul) (zaa 1) fMul) fAdd) (zaa 1) fAdd) ↥1 fAdd) ↥2147483647 fMod) (gtN 2))
  (sSeq (sAsg coe (e2 (e2 (e2 (zaa 2) (zaa 2) fMul) ↥69621 fAdd) ↥2147483629 fMod) (gtN 2))
  (sRet mov (e2 (e2 (zaa 2) ↥48271 fMul) ↥2147483587 fMod))))
def zcl:FC:=runF 06 3 zd6
def zb7:SF:=(sSeq (sSub coe (e2 (eIx (zaa 0) ↥2) ↥1 fAdd) (zaa 0) ↥2)
  (sAsg coe (e2 (e2 (zaa 3) ↥2147483587 fMul) (zah 06 zcl (zac 059 (zac (eIx (zaa 0) ↥2) aNil))) fAdd) (gtN 3)))
def zet:SF:=(sSeq (sIf (tst (e2 069 ↥0 fGt)) (sSeq (sAsg coe (e2 069 (zaa 1) fMod) (gtN 2))
  (sSeq (sSub coe (e2 069 (zaa 1) fDiv) (zaa 0) ↥0)
  (sRet mov (zaa 2)))) sNil)
  (sSeq (sAsg coe ↥0 (gtN 3))
  (sSeq (sFor (itR1 (e2 ↥1 (e2 (e1 (zaa 1) zkH) ↥30 fDiv) fAdd)) (gtN 4) zb7)
  (sRet mov (e2 (zaa 3) (zaa 1) fMod)))))
def zak:FC:=runF 086 5 zet
def zdI:SF:=(sSeq (sAsg coe (eIx (zaA coes .l (zac ↥1 (zac ↥4 (zac ↥30 047)))) 099) (gtN 2))
  (sRet coe (e2 (zah 086 zak (zac (zaa 0) (zac (e2 (e2 ↥2 (zaa 2) fMul) ↥1 fAdd) aNil))) (zaa 2) fSub)))
def zcd:FC:=runF 086 3 zdI
def zbR:EF:=(zah 086 zcd (zac (zaa 1) (zac (e2 ↥10 ↥8 fPow) aNil)))
def zcn:SF:=(sSeq (sAsg coe (zah 086 zak 068) (gtN 7))
  (sSeq (sAsg coe (zah 086 zak 068) (gtN 8))
  (sSeq (sAsg coe (eIx (zaA coes .l (zac ↥0 (zac ↥0 (zac 099 (zac (zah 086 zak (zac (zaa 0) (zac (e2 ↥10 ↥8 fPow) aNil))) aNil))))) 099) (gtN 9))
  (sSeq (zbd (eApp (zaa 5) (zaA coes mkT (zac (zaa 7) (zac (zaa 8) (zac (e2 (e2 (eIx (zaa 4) (zaa 8)) (eIx (zaa 4) (zaa 7)) fSub) (zaa 9) fAdd) aNil))))))
  (sIf (tst (e2 (zah 086 zak (zac (zaa 0) (zac ↥8 aNil))) ↥0 (fEq false))) (zbd (eApp (zaa 5) (eIx (zaa 5) (zah 086 zak (zac (zaa 0) (zac (eB (zac (zaa 5) aNil) (f1 fLen)) aNil)))))) sNil)))))
def zeL:SF:=(sSeq (sAsg coe (zah 086 zak (zac (zaa 0) (zac (e2 (zaa 1) ↥1 fAdd) aNil))) (gtN 3))
  (sSeq (sAsg coe (eLC (itR1 (zaa 3)) [none,some 0] (gtN 0) 055 zbR) (gtN 4))
  (sSeq (sAsg coe (zaA coes .l aNil) (gtN 5))
  (sSeq (sFor (itR1 (e2 (zah 086 zak (zac (zaa 0) (zac (e2 (zaa 2) ↥1 fAdd) aNil))) (eB (zac (e2 (zaa 3) ↥0 fGt) aNil) (f1 zlB)) fMul)) (gtN 6) zcn)
  (sRet mov (zaA movs mkT (zac (zaa 3) (zac (zaa 5) aNil))))))))
def zck:FC:=runF [true,false,false] 10 zeL
def zec:SF:=(sRet mov (eOfB (zdG ↥0 (zaa 1) (zaa 0) 063 (fun i j=>decide (i < j)))))
def zby:FC:=runF 06 2 zec
def zeJ:SF:=(sSeq (sAsg coe (zaa 1) (gtT (zaf (gtN 2) (zaf (gtN 3) (zaf (gtN 4) zaV)))))
  (sRet coe (eAnd (zah 06 zby (zac (zaa 0) 058)) (eAnd (zah 06 zby 068) (eOfB (zdG (e1 ↥(1000000000) fNeg) (zaa 4) ↥(1000000000) 063 063))))))
def zcO:FC:=runF 06 5 zeJ
def zcD:SF:=(sIf (gNot (eSc trV (zah 06 zcO (zac (zaa 1) (zac (zaa 4) aNil))))) sBad sNil)
def zd7:SF:=(sSeq (sAsg coe (zaa 0) (gtT (zaf (gtN 1) (zaf (gtN 2) zaV))))
  (sSeq (sIf (gNot (zdG ↥0 (zaa 1) ↥(20) 063 063)) sBad sNil)
  (sSeq (sIf (tst (e2 (eB 058 (f1 fLen)) ↥(60) fGt)) sBad sNil)
  (sFor (itE (zaa 2)) (gtT (zaf (gtN 3) (zaf (gtN 4) zaV))) zcD))))
def zbq:FC:=runF [false] 5 zd7
def zdx:SF:=(sIf (gNot (eSc trV (zah 06 zby (zac 069 047)))) sBad sNil)
def za7:FC:=runF 06 2 zdx
def zcS:SF:=(sSeq (zbd (zah [false] zbq 030))
  (sSeq (zbd (zah 06 za7 006))
  (zbd (zah 06 za7 (zac (zaa 0) 058)))))
def zat:FC:=runF 05 3 zcS
def zbJ:SF:=(sIf (tst (e2 (e2 (eIx (zaa 1) (zaa 5)) (zaa 7) fAdd) (eIx (zaa 1) (zaa 6)) fLt)) (sSeq (sSub coe (e2 (eIx (zaa 1) (zaa 5)) (zaa 7) fAdd) (zaa 1) (zaa 6))
  (sSeq (sSub coe (zaa 4) (zaa 2) (zaa 6))
  (sAsg coe (zaa 6) (gtN 3)))) sNil)
def zdP:SF:=(sSeq (sAsg coe 013 (gtN 3))
  (sSeq (sFor (itE (zaa 0)) (gtT 031) zbJ)
  (sRet mov (zaa 3))))
def zb5:FC:=runF [false,true,true] 8 zdP
def zcL:SF:=(sSeq (sAsg coe (zah [false,true,true] zb5 (zac (zaa 3) (zac (zaa 4) (zac (zaa 5) aNil)))) (gtN 6))
  (sIf (tst (e2 (zaa 6) 013 (fIs false))) sBrk sNil))
def zeo:SF:=(sSeq (sAsg coe (zaa 0) (gtT (zaf (gtN 2) (zaf (gtN 3) zaV))))
  (sSeq (sAsg coe (eB 047 (f1 zjl)) (gtN 4))
  (sSeq (sAsg coe (e2 (zaA coes .l (zac 013 aNil)) (zaa 2) fMul) (gtN 5))
  (sSeq (sAsg coe 013 (gtN 6))
  (sSeq (sFor (itR1 (zaa 2)) (gtN 7) zcL)
  (sRet mov (zaA movs mkT (zac (zaa 4) (zac (zaa 5) (zac (zaa 6) aNil))))))))))
def zb4:FC:=runF 06 8 zeo
def zdO:SF:=(sSeq (sAsg coe (zah 06 zb4 (zac (zaa 0) (zac (e2 (zaA coes .l (zac ↥0 aNil)) 069 fMul) aNil))) (gtT (zaf (gtN 1) (zaf (gtN 2) (zaf (gtN 3) zaV)))))
  (sIf (tst (e2 (zaa 3) 013 (fIs true))) sBad sNil))
def zaT:FC:=runF [false] 4 zdO
def zdK:SF:=(sSeq (sAsg coe (e2 (zaA coes .l (zac ↥(40000000000) aNil)) 069 fMul) (gtN 2))
  (sSeq (sSub coe ↥0 (zaa 2) (zaa 1))
  (sSeq (sAsg coe (zah 06 zb4 (zac (zaa 0) 058)) (gtT (zaf (gtN 3) (zaf (gtN 4) (zaf (gtN 5) zaV)))))
  (sRet mov (zaA movs mkT (zac (zaa 3) (zac (zaa 4) aNil)))))))
def zbw:FC:=runF 06 6 zdK
def zbg:SF:=(sIf (gAnd (tst (e2 (zaa 4) (eIx (zaa 2) (zaa 3)) (fEq false))) (tst (e2 (zaa 5) (zaa 2) (fIn true)))) (zbd (eApp (zaa 2) (zaa 5))) sNil)
def zbe:TF:=(tst (e2 (zaa 3) (eB 058 (f1 fLen)) fLt))
def zbh:SF:=(sSeq (zfD (srcM false 001 059) (gtT (zaf (gtN 4) (zaf (gtN 5) (zaf (gtN 6) zaV)))) zbg)
  (sAug 3 ↥1 (fun i j=>i+j)))
def zcV:SF:=(sSeq (sAsg coe (zaA coes .l 047) (gtN 2))
  (sSeq (sAsg coe ↥0 (gtN 3))
  (sSeq (zev zbe zbh)
  (sRet mov (eB 058 (f1 zc5))))))
def zaU:FC:=runF 06 7 zcV
def zb3:EF:=(eIf (tst (e2 (zaa 0) (zaa 1) (fIn false))) (eIx (zaa 2) (zaa 0)) 013)
def zdd:SF:=(sSeq (sAsg coe (zah 06 zbw 006) (gtT (zaf (gtN 2) (zaf (gtN 3) zaV))))
  (sSeq (sAsg coe (zah 06 zaU 006) (gtN 4))
  (sRet coe (eLC (itR1 069) [none,some 4,some 2] (gtN 0) 055 zb3))))
def zaM:FC:=runF 06 5 zdd
def ze6:SF:=(sSeq (zbd (zah 05 zat 07))
  (sSeq (zbd (zah [false] zaT 030))
  (sSeq (sAsg coe (eIx (zah 06 zaM 006) (zaa 2)) (gtN 3))
  (sSeq (sAsg coe (eIx (zah 06 zaM (zac (zaa 0) 058)) (zaa 1)) (gtN 4))
  (sRet coe (zaA coes mkT (zac (eIf (tst (e2 (zaa 4) 013 (fIs false))) 013 (e1 (zaa 4) fNeg)) (zac (zaa 3) aNil))))))))
def zb8:FC:=runF 05 5 ze6
def zbz:TF:=(tst (e2 (eIx (eIx (zaa 4) (eIx (zaa 5) ↥(-1))) ↥0) (zaa 2) 0000))
def zb9:SF:=(zbd (eApp (zaa 5) (eIx (zaa 1) (eIx (eIx (zaa 4) (eIx (zaa 5) ↥(-1))) ↥0))))
def zdl:SF:=(sSeq (sAsg coe 059 (gtN 4))
  (sSeq (sAsg coe (zaA coes .l (zac (eIx (zaa 1) (zaa 3)) aNil)) (gtN 5))
  (sSeq (zev zbz zb9)
  (sRet mov (e1 (zaa 5) fRev)))))
def zcA:FC:=runF 01 6 zdl
end My
end
namespace My
open PySem L2
abbrev Road:=Int×Int×Int
def zaG (r:Road):PyData:=.tuple [.int r.1,.int r.2.1,.int r.2.2]
def zar (rs:List Road):PyData:=.list (rs.map zaG)
def netD (n:Int) (rs:List Road):PyData:=.tuple [.int n,zar rs]
def zai (ns:List Int):PyData:=.list (ns.map .int)
def zoN (n:Int) (r:Road):Prop:=(0<=r.1/\r.1 < n)/\(0<=r.2.1/\r.2.1 < n)/\(-1000000000<=r.2.2/\r.2.2<=1000000000)
structure zay (n:Int) (rs:List Road):Prop where
 n0:0<=n
 n1:n<=20
 len:rs.length<=60
 rd:∀r∈rs,zoN n r
def zaH (rs:List Road) (k:Int):Option Road:=if 0<=k/\k < rs.length then rs[k.toNat]? else none
theorem za9 {rs:List Road} {k:Int} {r:Road} (h:zaH rs k=some r):0<=k/\k < rs.length/\rs[k.toNat]? = some r:=by
 unfold zaH at h;split at h
 .rename_i hk;exact ⟨hk.1,hk.2,h⟩
 .cases h
theorem zeg {rs:List Road} {k:Int} (h0:0<=k) (h1:k < rs.length):∃r,zaH rs k=some r/\rs[k.toNat]? = some r:=by
 have hk:k.toNat < rs.length:=by omega
 refine ⟨rs[k.toNat], ?_,by simp[hk]⟩;unfold zaH;rw[if_pos ⟨h0,h1⟩];simp[hk]
theorem zbp {rs:List Road} {k:Int} {r:Road} (h:zaH rs k=some r):r∈rs:=List.mem_of_getElem? (za9 h).2.2
def zaR (rs:List Road):Int->Int->List Int->Bool
 | p,q,[]=>decide (p=q)
 | p,q,k::ws=>match zaH rs k with
  | some r=>if r.1=p then zaR rs r.2.1 q ws else false
  | none=>false
def zgj (rs:List Road) (k:Int):Int:=match zaH rs k with
 | some r=>r.2.2
 | none=>0
def zaK (rs:List Road) (ws:List Int):Int:=(ws.map (zgj rs)).sum
def zkJ (rs:List Road) (ws:List Int):Prop:=∀k∈ws,0<=k/\k < rs.length
theorem zeA {rs:List Road}:∀{ws:List Int} {p q:Int},zaR rs p q ws=true->zkJ rs ws
 | [],_,_,_=>fun _ h=>by simp at h
 | k::ws,p,q,h=>by
  unfold zaR at h
  cases e:zaH rs k with
  | none=>rw[e] at h;cases h
  | some r=>
   rw[e] at h;simp only at h;split at h
   .intro j hj;rcases List.mem_cons.mp hj with rfl | hj
    .exact ⟨(za9 e).1,(za9 e).2.1⟩
    .exact zeA h j hj
   .cases h
end My
namespace L2
end L2
namespace My
open PySem L2
end My
namespace L2
end L2
namespace My
open PySem L2 PySem.SeqAt
mutual
theorem zdY:∀d:PyData,d.canLay0=true->PyData.eqv d d=true
 | .none,_=>rfl
 | .bool b,_=>by simp[PyData.eqv]
 | .int i,_=>by simp[PyData.eqv]
 | .str x,_=>by simp[PyData.eqv]
 | .list xs,h=>by
  simp only[PyData.eqv];exact zeS xs (by simpa [PyData.canLay0] using h)
 | .tuple xs,h=>by
  simp only[PyData.eqv];exact zeS xs (by simpa [PyData.canLay0] using h)
 | .dict _,h=>by simp[PyData.canLay0] at h
theorem zeS:∀ds:List PyData,PyData.canLayAll0 ds=true->PyData.eqvAll ds ds=true
 | [],_=>rfl
 | d::ds,h=>by
  simp only[PyData.canLayAll0,Bool.and_eq_true] at h;simp only[PyData.eqvAll,Bool.and_eq_true];exact ⟨zdY d h.1,zeS ds h.2⟩
end
theorem zpE (ds:List PyData):PyData.eqv 050 (.list [])=ds.isEmpty:=by
 cases ds<;>simp[PyData.eqv,PyData.eqvAll]
def Lay (n:Nat) (d:PyData):Prop:=d.canLay0=true/\d.depth<=n
theorem Lay.shaped {n:Nat} {d:PyData} (h:Lay n d) (hn:n<=64:=by decide):shaped d=true:=by
 unfold SeqAt.shaped;rw[h.1,Bool.true_and];exact decide_eq_true (Nat.le_trans h.2 hn)
theorem Lay.int (i:Int):Lay 0 (.int i):=⟨rfl,Nat.le_refl _⟩
theorem Lay.none:Lay 0 .none:=⟨rfl,Nat.le_refl _⟩
end My
namespace My
open PySem L2
def zrY (n B:Int) (r:Road):Prop:=(0<=r.1/\r.1 < n)/\(0<=r.2.1/\r.2.1 < n)/\(-B<=r.2.2/\r.2.2<=B)
structure NetB (n B:Int) (most many:Nat) (rs:List Road):Prop where
 n0:0<=n
 n1:n<=most
 len:rs.length<=many
 rd:∀r∈rs,zrY n B r
abbrev Tab:=List (List 08)
def optD:Option Int->PyData
 | none=>.none
 | some i=>.int i
def rowD (r:List 08):PyData:=.list (r.map optD)
def tabD (t:Tab):PyData:=.list (t.map rowD)
structure Shape (n:Nat) (t:Tab):Prop where
 len:t.length=n
 row:∀r∈t,r.length=n
def cell (t:Tab) (i j:Nat):Option Int:=((t[i]?.getD [])[j]?).getD none
theorem Shape.at {n:Nat} {t:Tab} (h:Shape n t) {i j:Nat} (hi:i < n) (hj:j < n):∃r,t[i]? = some r/\r[j]? = some (cell t i j)/\r∈t:=by
 have hi':i < t.length:=by rw[h.len];exact hi
 refine ⟨t[i],by simp[hi'], ?_,List.getElem_mem hi'⟩;have hj':j < t[i].length:=by rw[h.row _ (List.getElem_mem hi')];exact hj
 unfold cell;simp[hi',hj']
theorem zd0 {α:Type} (f:α->Nat->α) (a:α) (k:Nat):(List.range (k+1)).foldl f a=f ((List.range k).foldl f a) k:=by
 rw[List.range_succ,List.foldl_append];rfl
inductive Wk (rs:List Road):Int->Int->Int->Prop where
 | nil (p:Int):Wk rs p p 0
 | cons {r:Road} {q L:Int}:r∈rs->Wk rs r.2.1 q L->Wk rs r.1 q (r.2.2+L)
theorem Wk.cast {rs:List Road} {p q L M:Int} (h:Wk rs p q L) (e:L=M):Wk rs p q M:=e ▸ h
theorem Wk.trans {rs:List Road} {p q s L M:Int} (h:Wk rs p q L) (g:Wk rs q s M):Wk rs p s (L+M):=by
 induction h with
 | nil p=>exact g.cast ∅
 | cons hr _ ih=>exact (Wk.cons hr (ih g)).cast ∅
theorem Wk.one {rs:List Road} {r:Road} (h:r∈rs):Wk rs r.1 r.2.1 r.2.2:=(Wk.cons h (.nil _)).cast ∅
theorem Wk.sub {rs rs':List Road} (hs:∀r∈rs,r∈rs') {p q L:Int} (h:Wk rs p q L):Wk rs' p q L:=by
 induction h with
 | nil p=>exact .nil p
 | cons hr _ ih=>exact .cons (hs _ hr) ih
def Taut (rs:List Road):Prop:=∀p L,Wk rs p p L->0<=L
def Pot (rs:List Road) (h:Int->Int):Prop:=∀r∈rs,h r.2.1<=h r.1+r.2.2
theorem Pot.wk {rs:List Road} {h:Int->Int} (P:Pot rs h) {p q L:Int} (w:Wk rs p q L):h q<=h p+L:=by
 induction w with
 | nil p=>omega
 | cons hr _ ih=>have:=P _ hr;omega
theorem Pot.taut {rs:List Road} {h:Int->Int} (P:Pot rs h):Taut rs:=fun p L w=>by have:=P.wk w;omega
theorem Wk.end_in {rs:List Road} {n:Int} (ok:∀r∈rs,(0<=r.1/\r.1 < n)/\(0<=r.2.1/\r.2.1 < n)) {p q L:Int} (h:Wk rs p q L) (hp:0<=p/\p < n):0<=q/\q < n:=by
 induction h with
 | nil p=>exact hp
 | cons hr _ ih=>exact ih (ok _ hr).2
def Dist (rs:List Road) (p q d:Int):Prop:=Wk rs p q d/\∀L,Wk rs p q L->d<=L
theorem zdt {rs:List Road} {k:Int} {r:Road} (h:zaH rs k=some r):zgj rs k=r.2.2:=by unfold zgj;rw[h]
theorem zcq (rs:List Road) (k:Int) (ws:List Int):zaK rs (k::ws)=zgj rs k+zaK rs ws:=by unfold zaK;simp
theorem zfC (rs:List Road) (a b:List Int):zaK rs (a++b)=zaK rs a+zaK rs b:=by unfold zaK;simp
theorem zeD {rs:List Road}:∀{ws:List Int} {p q:Int},zaR rs p q ws=true->Wk rs p q (zaK rs ws)
 | [],p,q,h=>by
  have:p=q:=by simpa [zaR] using h
  subst this;exact .nil p
 | k::ws,p,q,h=>by
  unfold zaR at h
  cases e:zaH rs k with
  | none=>rw[e] at h;cases h
  | some r=>
   rw[e] at h;simp only at h;split at h
   .rename_i hp;subst hp;rw[zcq,zdt e];exact .cons (zbp e) (zeD h)
   .cases h
def up1 {α:Type} (h:Int->α) (v:Int) (a:α):Int->α:=fun x=>if x=v then a else h x
theorem zc6 {α:Type} (h:Int->α) (v:Int) (a:α):up1 h v a v=a:=if_pos rfl
theorem zcW {α:Type} (h:Int->α) {v x:Int} (a:α) (hx:x≠v):up1 h v a x=h x:=if_neg hx
structure Bf where
 h:Int->Int
 e:Int->Option Int
 l:Option Int
def zif (rs:List Road) (b:Bf) (k:Nat):Bf:=match rs[k]? with
 | some r=>if b.h r.1+r.2.2 < b.h r.2.1 then ⟨up1 b.h r.2.1 (b.h r.1+r.2.2),up1 b.e r.2.1 (some (k:Int)),some r.2.1⟩ else b
 | none=>b
def bfTo (rs:List Road) (b:Bf) (k:Nat):Bf:=(List.range k).foldl (zif rs) { b with l:=none }
def zbm (rs:List Road) (b:Bf):Bf:=bfTo rs b rs.length
def zcU (rs:List Road):Nat->Bf->Bf
 | 0,b=>b
 | k+1,b=>if (zbm rs b).l=none then zbm rs b else zcU rs k (zbm rs b)
def zaz (n:Nat) (rs:List Road) (s:Int->Int):Bf:=zcU rs n ⟨s,fun _=>none,none⟩
def Bk (rs:List Road) (e:Int->Option Int):Int->Int->List Int->Prop
 | x,y,[]=>x=y
 | x,y,k::ws=>e x=some k/\∃r,zaH rs k=some r/\Bk rs e r.1 y ws
structure BI (rs:List Road) (s h:Int->Int) (e:Int->Option Int):Prop where
 snd:∀v,∃u L,Wk rs u v L/\h v=s u+L
 ent:∀v k,e v=some k->∃r,zaH rs k=some r/\r.2.1=v/\h r.1+r.2.2<=h v/\h v < s v
 non:∀v,e v=none->h v=s v
 neg:∀x ws,ws≠[]->Bk rs e x x ws->zaK rs ws < 0
theorem zfH {rs:List Road} {k:Nat} {r:Road} (h:rs[k]? = some r):zaH rs (k:Int)=some r:=by
 have hk:=(List.getElem?_eq_some_iff.mp h).1;unfold zaH;rw[if_pos ⟨by omega,by omega⟩,Int.toNat_natCast,h]
theorem BI.start (rs:List Road) (s:Int->Int):BI rs s s (fun _=>none) where
 snd:=fun v=>⟨v,0,.nil v,by omega⟩
 ent:=fun v k h=>by cases h
 non:=fun v _=>rfl
 neg:=fun x ws hw h=>by
  cases ws with
  | nil=>exact absurd rfl hw
  | cons k ws=>cases h.1
theorem BI.tele {rs:List Road} {s h:Int->Int} {e:Int->Option Int} (B:BI rs s h e):∀{ws:List Int} {x y:Int},Bk rs e x y ws->h y+zaK rs ws<=h x
 | [],x,y,b=>by
  have:x=y:=b
  subst this;simp[zaK]
 | k::ws,x,y,b=>by
  obtain ⟨e1,r,hr,b'⟩:=b;obtain ⟨r',hr',_,h3,_⟩:=B.ent x k e1;rw[hr] at hr';cases hr'
  have:=B.tele b'
  rw[zcq,zdt hr];omega
theorem BI.step {rs:List Road} {s h:Int->Int} {e:Int->Option Int} (B:BI rs s h e) {k:Nat} {r:Road} (hr:rs[k]? = some r) (hlt:h r.1+r.2.2 < h r.2.1) :
  BI rs s (up1 h r.2.1 (h r.1+r.2.2)) (up1 e r.2.1 (some (k:Int))):=by
 have hrk:=zfH hr;have hmem:=zbp hrk;have hle:∀x,up1 h r.2.1 (h r.1+r.2.2) x<=h x:=fun x=>by
  by_cases hx:x=r.2.1
  .rw[hx,zc6];omega
  .rw[zcW _ _ hx];exact Int.le_refl _
 have ent':∀v j,up1 e r.2.1 (some (k:Int)) v=some j->∃r',zaH rs j=some r'/\r'.2.1=v/\up1 h r.2.1 (h r.1+r.2.2) r'.1+r'.2.2<=up1 h r.2.1 (h r.1+r.2.2) v/\up1 h r.2.1 (h r.1+r.2.2) v < s v/\(r'.1=r.2.1->up1 h r.2.1 (h r.1+r.2.2) r'.1+r'.2.2 < up1 h r.2.1 (h r.1+r.2.2) v):=by
  intro v j hv
  by_cases hx:v=r.2.1
  .subst hx;rw[zc6] at hv;cases hv;have hs:h r.2.1<=s r.2.1:=by
    cases hh:e r.2.1 with
    | none=>rw[B.non _ hh];exact Int.le_refl _
    | some j=>obtain ⟨_,_,_,_,q⟩:=B.ent _ _ hh;omega
   refine ⟨r,hrk,rfl, ?_, ?_, ?_⟩
   .rw[zc6];have:=hle r.1;omega
   .rw[zc6];omega
   .intro hu;rw[hu,zc6];rw[hu] at hlt;rw[<-hu] at *;omega
  .rw[zcW _ _ hx] at hv;obtain ⟨r',h1,h2,h3,h4⟩:=B.ent v j hv;refine ⟨r',h1,h2, ?_, ?_, ?_⟩
   .rw[zcW _ _ hx];have:=hle r'.1;omega
   .rw[zcW _ _ hx];exact h4
   .intro hu;rw[zcW _ _ hx,hu,zc6];rw[hu] at h3;omega
 refine ⟨fun v=>?_,fun v j hv=>?_,fun v hv=>?_,fun x ws hw hb=>?_⟩
 .by_cases hx:v=r.2.1
  .obtain ⟨u,L,w,e1⟩:=B.snd r.1;refine ⟨u,L+r.2.2, ?_,by rw[hx,zc6];omega⟩;rw[hx];exact w.trans (.one hmem)
  .obtain ⟨u,L,w,e1⟩:=B.snd v;exact ⟨u,L,w,by rw[zcW _ _ hx];exact e1⟩
 .obtain ⟨r',a,b,c,d,_⟩:=ent' v j hv;exact ⟨r',a,b,c,d⟩
 .by_cases hx:v=r.2.1
  .rw[hx,zc6] at hv;cases hv
  .rw[zcW _ _ hx] at hv ⊢;exact B.non v hv
 .-- the chain is an old one,or strictly shorter
  have key:∀(ws:List Int) (x y:Int),ws≠[]->Bk rs (up1 e r.2.1 (some (k:Int))) x y ws->
    (y≠r.2.1/\(x≠r.2.1->Bk rs e x y ws)/\up1 h r.2.1 (h r.1+r.2.2) y+zaK rs ws<=up1 h r.2.1 (h r.1+r.2.2) x)\/up1 h r.2.1 (h r.1+r.2.2) y+zaK rs ws < up1 h r.2.1 (h r.1+r.2.2) x:=by
   intro ws
   induction ws with
   | nil=>intro x y hn;exact absurd rfl hn
   | cons j ws ih=>
    intro x y _ hb;obtain ⟨e1,r',hr',b'⟩:=hb;obtain ⟨r2,h1,h2,h3,h4,h5⟩:=ent' x j e1;rw[hr'] at h1;cases h1;rw[zcq,zdt hr']
    by_cases hv:r'.1=r.2.1
    .right
     have q:=h5 hv
     cases ws with
     | nil=>
      have hy:r'.1=y:=b';subst hy;simp only[zaK,List.map_nil,List.sum_nil];omega
     | cons j' ws'=>
      rcases ih r'.1 y (by simp) b' with ⟨_,_,z⟩ | z<;>omega
    .cases ws with
     | nil=>
      have hy:r'.1=y:=b';subst hy
      left
      refine ⟨hv,fun hx=>⟨by rw[zcW _ _ hx] at e1;exact e1,r',hr',rfl⟩, ?_⟩;simp only[zaK,List.map_nil,List.sum_nil];omega
     | cons j' ws'=>
      rcases ih r'.1 y (by simp) b' with ⟨z1,z2,z3⟩ | z
      .left
       exact ⟨z1,fun hx=>⟨by rw[zcW _ _ hx] at e1;exact e1,r',hr',z2 hv⟩,by omega⟩
      .right;omega
  rcases key ws x x hw hb with ⟨z1,z2,_⟩ | z
  .exact B.neg x ws hw (z2 z1)
  .omega
structure GI (rs:List Road) (b:Bf) (rd:Int->Nat) (k pos:Nat):Prop where
 en:∀v,1<=rd v->∃j r,b.e v=some j/\zaH rs j=some r/\rd v<=rd r.1+1
 ro:∀j r,rs[j]? = some r->b.h r.2.1<=b.h r.1+r.2.2\/k<=rd r.1+(if j < pos then 0 else 1)
 mx:∀v,rd v<=k
 la:∀v,b.l=some v->rd v=k
 nl:b.l=none->∀j r,j < pos->rs[j]? = some r->b.h r.2.1<=b.h r.1+r.2.2
structure BG (rs:List Road) (s:Int->Int) (b:Bf) (rd:Int->Nat) (k pos:Nat):Prop where
 bi:BI rs s b.h b.e
 gi:GI rs b rd k pos
theorem BG.step {rs:List Road} {s:Int->Int} {b:Bf} {rd:Int->Nat} {k pos:Nat} (G:BG rs s b rd (k+1) pos):∃rd',BG rs s (zif rs b pos) rd' (k+1) (pos+1):=by
 unfold zif
 cases e:rs[pos]? with
 | none=>
  refine ⟨rd,G.bi,G.gi.en,fun j r hj=>?_,G.gi.mx,G.gi.la,fun hn j r hj hr=>?_⟩
  .rcases G.gi.ro j r hj with z | z
   .exact .inl z
   .right
    by_cases hj2:j < pos
    .rw[if_pos hj2] at z;rw[if_pos ∅];exact z
    .have:j≠pos:=fun q=>by rw[q,e] at hj;cases hj
     rw[if_neg hj2] at z;rw[if_neg ∅];exact z
  .by_cases q:j=pos
   .rw[q,e] at hr;cases hr
   .exact G.gi.nl hn j r ∅ hr
 | some r=>
  simp only
  by_cases hlt:b.h r.1+r.2.2 < b.h r.2.1
  .rw[if_pos hlt];have hro:k<=rd r.1:=by
    rcases G.gi.ro pos r e with z | z
    .omega
    .rw[if_neg ∅] at z;omega
   have hle:∀x,up1 b.h r.2.1 (b.h r.1+r.2.2) x<=b.h x:=fun x=>by
    by_cases hx:x=r.2.1
    .rw[hx,zc6];omega
    .rw[zcW _ _ hx];exact Int.le_refl _
   have hge:∀x,rd x<=up1 rd r.2.1 (k+1) x:=fun x=>by
    by_cases hx:x=r.2.1
    .rw[hx,zc6];exact G.gi.mx _
    .rw[zcW _ _ hx];exact Nat.le_refl _
   refine ⟨up1 rd r.2.1 (k+1),G.bi.step e hlt,fun v hv=>?_,fun j r' hj=>?_,fun v=>?_,fun v hv=>?_,fun hn=>by cases hn⟩
   .by_cases hx:v=r.2.1
    .subst hx;refine ⟨pos,r,zc6 _ _ _,zfH e, ?_⟩;rw[zc6]
     have:=hge r.1
     omega
    .rw[zcW _ _ hx] at hv ⊢;obtain ⟨j,r',h1,h2,h3⟩:=G.gi.en v hv;refine ⟨j,r',by show up1 b.e r.2.1 _ v=_;rw[zcW _ _ hx];exact h1,h2, ?_⟩
     have:=hge r'.1
     omega
   .by_cases hx:r'.1=r.2.1
    .right;rw[hx,zc6];exact Nat.le_add_right _ _
    .rw[show (Bf.mk (up1 b.h r.2.1 (b.h r.1+r.2.2)) (up1 b.e r.2.1 (some (pos:Int))) (some r.2.1)).h=up1 b.h r.2.1 (b.h r.1+r.2.2) from rfl]
     by_cases hp:j=pos
     .subst hp;rw[e] at hj;cases hj
      left
      rw[zc6,zcW _ _ hx];exact Int.le_refl _
     .rcases G.gi.ro j r' hj with z | z
      .left
       have:=hle r'.2.1
       rw[zcW _ _ hx];omega
      .right
       rw[zcW _ _ hx]
       by_cases hj2:j < pos
       .rw[if_pos hj2] at z;rw[if_pos ∅];exact z
       .rw[if_neg hj2] at z;rw[if_neg ∅];exact z
   .by_cases hx:v=r.2.1
    .rw[hx,zc6];exact Nat.le_refl _
    .rw[zcW _ _ hx];exact G.gi.mx v
   .cases hv;exact zc6 _ _ _
  .rw[if_neg hlt];refine ⟨rd,G.bi,G.gi.en,fun j r' hj=>?_,G.gi.mx,G.gi.la,fun hn j r' hj hr=>?_⟩
   .by_cases hp:j=pos
    .subst hp;rw[e] at hj;cases hj;exact .inl ∅
    .rcases G.gi.ro j r' hj with z | z
     .exact .inl z
     .right
      by_cases hj2:j < pos
      .rw[if_pos hj2] at z;rw[if_pos ∅];exact z
      .rw[if_neg hj2] at z;rw[if_neg ∅];exact z
   .by_cases hp:j=pos
    .subst hp;rw[e] at hr;cases hr;omega
    .exact G.gi.nl hn j r' ∅ hr
theorem BG.to {rs:List Road} {s:Int->Int} {b:Bf} {rd:Int->Nat} {k:Nat} (G:BG rs s { b with l:=none } rd (k+1) 0):∀pos,∃rd',BG rs s (bfTo rs b pos) rd' (k+1) pos
 | 0=>⟨rd,G⟩
 | pos+1=>by
  obtain ⟨rd',G'⟩:=BG.to G pos;obtain ⟨rd2,G2⟩:=G'.step;refine ⟨rd2, ?_⟩;unfold bfTo at G2 ⊢;rw[zd0];exact G2
theorem BG.next {rs:List Road} {s:Int->Int} {b:Bf} {rd:Int->Nat} {k:Nat} (G:BG rs s b rd k rs.length):BG rs s { b with l:=none } rd (k+1) 0:=
 ⟨G.bi,G.gi.en,fun j r hj=>by
  have hl:=(List.getElem?_eq_some_iff.mp hj).1;rcases G.gi.ro j r hj with z | z
  .exact .inl z
  .right
   rw[if_pos hl] at z;rw[if_neg ∅]
   omega,fun v=>Nat.le_succ_of_le (G.gi.mx v),fun v hv=>(by cases hv),fun _ j r hj=>by omega⟩
theorem BG.first (rs:List Road) (s:Int->Int):BG rs s ⟨s,fun _=>none,none⟩ (fun _=>0) 1 0:=
 ⟨BI.start rs s,fun v hv=>absurd hv (show ¬(1<=0) by omega),fun j r hj=>.inr (by rw[if_neg ∅];exact Nat.le_refl _),fun v=>Nat.zero_le _,fun v hv=>(by cases hv),fun _ j r hj=>by omega⟩
theorem zeY {rs:List Road} {s:Int->Int}:∀(m:Nat) (b:Bf) (rd:Int->Nat) (k:Nat),BG rs s { b with l:=none } rd (k+1) 0->0 < m->
  BI rs s (zcU rs m b).h (zcU rs m b).e/\(((zcU rs m b).l=none/\Pot rs (zcU rs m b).h)\/∃(v:Int) (rd':Int->Nat),(zcU rs m b).l=some v/\rd' v=k+m/\∀x,1<=rd' x->∃j r,(zcU rs m b).e x=some j/\zaH rs j=some r/\rd' x<=rd' r.1+1)
 | 0,_,_,_,_,h=>absurd h ∅
 | m+1,b,rd,k,G,_=>by
  obtain ⟨rd',G'⟩:=G.to rs.length;unfold zcU
  by_cases hl:(zbm rs b).l=none
  .rw[if_pos hl];exact ⟨G'.bi,.inl ⟨hl,fun r hr=>by
    obtain ⟨i,hi,e⟩:=List.getElem_of_mem hr;exact G'.gi.nl hl i r hi (by simp[hi,e])⟩⟩
  .rw[if_neg hl]
   by_cases hm:m=0
   .subst hm;refine ⟨G'.bi,.inr ?_⟩
    cases e:(zbm rs b).l with
    | none=>exact absurd e hl
    | some v=>
     exact ⟨v,rd',by unfold zcU;exact e,G'.gi.la v e,fun x hx=>G'.gi.en x hx⟩
   .have:=zeY m (zbm rs b) rd' (k+1) (BG.next G') ∅
    refine ⟨this.1, ?_⟩;rcases this.2 with z | ⟨v,rd2,z1,z2,z3⟩
    .exact .inl z
    .exact .inr ⟨v,rd2,z1,by omega,z3⟩
theorem zeb (n:Nat) (rs:List Road) (s:Int->Int):BI rs s (zaz n rs s).h (zaz n rs s).e:=by
 cases n with
 | zero=>exact BI.start rs s
 | succ n=>exact (zeY (n+1) _ _ 0 (BG.first rs s) (Nat.succ_pos _)).1
theorem zoJ:∀(n:Nat) (f:Nat->Nat),(∀i,i<=n->f i < n)->∃i j,i < j/\j<=n/\f i=f j
 | 0,f,h=>absurd (h 0 022) ∅
 | n+1,f,h=>by
  by_cases hx:∃i,i<=n/\f i=f (n+1)
  .obtain ⟨i,hi,e⟩:=hx;exact ⟨i,n+1,by omega,Nat.le_refl _,e⟩
  .have hne:∀i,i<=n->f i≠f (n+1):=fun i hi e=>hx ⟨i,hi,e⟩
   have ha:=h (n+1) 022;obtain ⟨i,j,h1,h2,h3⟩:=zoJ n (fun i=>if f i=n then f (n+1) else f i) (fun i hi=>by
    have h1:=h i ∅;have h2:=hne i hi
    show (if f i=n then f (n+1) else f i) < n
    split<;>omega)
   refine ⟨i,j,h1,by omega, ?_⟩;have h4:=hne i ∅;have h5:=hne j h2;have h3':(if f i=n then f (n+1) else f i)=(if f j=n then f (n+1) else f j):=h3;split at h3'<;>split at h3'<;>omega
theorem zlY {n:Nat} (f:Nat->Int) (h:∀i,i<=n->0<=f i/\f i < n):∃i j,i < j/\j<=n/\f i=f j:=by
 obtain ⟨i,j,h1,h2,h3⟩:=zoJ n (fun i=>(f i).toNat) (fun i hi=>by have:=h i hi;omega);refine ⟨i,j,h1,h2, ?_⟩
 have:=h i ∅
 have:=h j h2
 have h3':(f i).toNat=(f j).toNat:=h3;omega
theorem ziH {n:Nat} {xs:List Int} (nd:xs.Nodup) (h:∀x∈xs,0<=x/\x < n):xs.length<=n:=by
 rcases Nat.lt_or_ge n xs.length with hl | hl
 .obtain ⟨i,j,h1,h2,h3⟩:=zlY (n:=n) (fun i=>xs.getD i 0) (fun i hi=>by
   have hi':i < xs.length:=by omega
   have:xs.getD i 0=xs[i]:=by simp[List.getD,hi']
   show 0<=xs.getD i 0/\xs.getD i 0 < n
   rw[this];exact h _ (List.getElem_mem hi'))
  have hi':i < xs.length:=by omega
  have hj':j < xs.length:=by omega
  have e1:xs.getD i 0=xs[i]:=by simp[List.getD,hi']
  have e2:xs.getD j 0=xs[j]:=by simp[List.getD,hj']
  have h3':xs.getD i 0=xs.getD j 0:=h3;rw[e1,e2] at h3'
  have:=(List.getElem_inj nd).mp h3'
  omega
 .exact hl
theorem zef {rs:List Road}:∀{a b:List Int} {p m q:Int},zaR rs p m a=true->zaR rs m q b=true->zaR rs p q (a++b)=true
 | [],b,p,m,q,h,g=>by
  have:p=m:=by simpa [zaR] using h
  rw[this];exact g
 | k::a,b,p,m,q,h,g=>by
  unfold zaR at h;rw[List.cons_append];unfold zaR
  cases e:zaH rs k with
  | none=>rw[e] at h;cases h
  | some r=>
   rw[e] at h;simp only at h ⊢;split at h
   .rename_i hp;rw[if_pos hp];exact zef h g
   .cases h
theorem zgo {rs:List Road} {k:Int} {r:Road} (h:zaH rs k=some r):zaR rs r.1 r.2.1 [k]=true:=by
 unfold zaR;rw[h];simp[zaR]
theorem zdR (rs:List Road) (ws:List Int):zaK rs ws.reverse=zaK rs ws:=by
 unfold zaK;rw[List.map_reverse,List.sum_reverse]
theorem ze7 {n:Int} {rs:List Road} (ok:zay n rs):∀{ws:List Int},zkJ rs ws->-(1000000000 * (ws.length:Int))<=zaK rs ws/\zaK rs ws<=1000000000 * (ws.length:Int)
 | [],_=>by simp[zaK]
 | k::ws,h=>by
  have ih:=ze7 ok (ws:=ws) fun j hj=>h j (List.mem_cons_of_mem _ hj)
  obtain ⟨h0,h1⟩:=h k List.mem_cons_self;obtain ⟨r,hr,_⟩:=zeg h0 h1;obtain ⟨_,_,l0,l1⟩:=ok.rd r (zbp hr);rw[zcq,zdt hr,List.length_cons];omega
def zdH (rs:List Road) (k:Int):Int:=match zaH rs k with
 | some r=>r.1
 | none=>0
theorem zgi {rs:List Road} {k:Int} {r:Road} (h:zaH rs k=some r):zdH rs k=r.1:=by unfold zdH;rw[h]
theorem BI.leads {rs:List Road} {s h:Int->Int} {e:Int->Option Int} (B:BI rs s h e):∀{ws:List Int} {x y:Int},Bk rs e x y ws->zaR rs y x ws.reverse=true
 | [],x,y,b=>by
  have:x=y:=b
  subst this;simp[zaR]
 | k::ws,x,y,b=>by
  obtain ⟨e1,r,hr,b'⟩:=b;obtain ⟨r',hr',h2,_⟩:=B.ent x k e1;rw[hr] at hr';cases hr';rw[List.reverse_cons];refine zef (B.leads b') ?_;rw[<-h2];exact zgo hr
theorem Bk.allIn {rs:List Road} {e:Int->Option Int}:∀{ws:List Int} {x y:Int},Bk rs e x y ws->zkJ rs ws
 | [],_,_,_=>fun _ h=>by simp at h
 | k::ws,x,y,b=>fun j hj=>by
  obtain ⟨e1,r,hr,b'⟩:=b;rcases List.mem_cons.mp hj with rfl | hj
  .exact ⟨(za9 hr).1,(za9 hr).2.1⟩
  .exact Bk.allIn b' j hj
def stp (rs:List Road) (e:Int->Option Int) (x:Int):Int:=match e x with
 | some k=>zdH rs k
 | none=>x
def itr (rs:List Road) (e:Int->Option Int):Nat->Int->Int
 | 0,x=>x
 | j+1,x=>stp rs e (itr rs e j x)
theorem zlm {rs:List Road} {e:Int->Option Int} {x k:Int} {r:Road} (h:e x=some k) (hr:zaH rs k=some r):stp rs e x=r.1:=by unfold stp;rw[h];exact zgi hr
theorem zgF {rs:List Road} {e:Int->Option Int} {x:Int}:∀(m a:Nat),(∀i,a<=i->i < a+m->∃k r,e (itr rs e i x)=some k/\zaH rs k=some r)->∃ws,Bk rs e (itr rs e a x) (itr rs e (a+m) x) ws/\ws.length=m
 | 0,a,_=>⟨[],rfl,rfl⟩
 | m+1,a,h=>by
  obtain ⟨ws,hb,hl⟩:=zgF m (a+1) (fun i h1 h2=>h i ∅ ∅);obtain ⟨k,r,h1,h2⟩:=h a 022 ∅;refine ⟨k::ws,⟨h1,r,h2, ?_⟩,by simp[hl]⟩;have e1:itr rs e (a+1) x=r.1:=zlm h1 h2;rw[<-e1,show a+(m+1)=a+1+m by omega];exact hb
theorem zna {rs:List Road} {e:Int->Option Int} {x:Int} {i j:Nat} (h:itr rs e i x=itr rs e j x):∀t,itr rs e (i+t) x=itr rs e (j+t) x
 | 0=>h
 | t+1=>by show stp rs e (itr rs e (i+t) x)=stp rs e (itr rs e (j+t) x);rw[zna h t]
theorem zh4 {rs:List Road} {e:Int->Option Int} {x:Int} {n:Nat} (hin:∀i,i<=n->0<=itr rs e i x/\itr rs e i x < n) (hen:∀i,i < n->∃k r,e (itr rs e i x)=some k/\zaH rs k=some r) :
  ∃ws,ws≠[]/\Bk rs e (itr rs e n x) (itr rs e n x) ws/\ws.length<=n:=by
 obtain ⟨i,j,h1,h2,h3⟩:=zlY (fun i=>itr rs e i x) hin;have h4:=zna h3 (n - j);rw[show j+(n - j)=n by omega] at h4;obtain ⟨ws,hb,hl⟩:=zgF (rs:=rs) (e:=e) (x:=x) (n - (i+(n - j))) (i+(n - j)) (fun a _ ha=>hen a ∅);rw[show i+(n - j)+(n - (i+(n - j)))=n by omega,h4] at hb;exact ⟨ws,fun z=>by rw[z] at hl;simp at hl;omega,hb,by omega⟩
theorem zmw {n:Int} {rs:List Road} (ok:zay n rs) {s h:Int->Int} {e:Int->Option Int} (B:BI rs s h e) {x:Int} (hx:0<=x/\x < n):∀i,0<=itr rs e i x/\itr rs e i x < n
 | 0=>hx
 | i+1=>by
  show 0<=stp rs e (itr rs e i x)/\stp rs e (itr rs e i x) < n
  cases he:e (itr rs e i x) with
  | none=>unfold stp;rw[he];exact zmw ok B hx i
  | some k=>
   obtain ⟨r,hr,_⟩:=B.ent _ k he;rw[zlm he hr];exact (ok.rd r (zbp hr)).1
theorem BI.root {n:Int} {rs:List Road} (ok:zay n rs) (T:Taut rs) {s h:Int->Int} {e:Int->Option Int} (B:BI rs s h e) {x:Int} (hx:0<=x/\x < n):∃y ws,Bk rs e x y ws/\e y=none/\(ws.length:Int)<=n - 1:=by
 have hin:=zmw ok B hx
 by_cases hall:∀i,i < n.toNat->∃k,e (itr rs e i x)=some k
 .exfalso
  obtain ⟨ws,hne,hb,_⟩:=zh4 (rs:=rs) (e:=e) (x:=x) (n:=n.toNat) (fun i _=>by have:=hin i;omega) (fun i hi=>by
   obtain ⟨k,hk⟩:=hall i hi;obtain ⟨r,hr,_⟩:=B.ent _ k hk;exact ⟨k,r,hk,hr⟩)
  have h1:=B.neg _ ws hne hb;have h2:=T _ _ (zeD (B.leads hb));rw[zdR] at h2;omega
 .-- the first one without an entry
  have hex:∃i,i < n.toNat/\e (itr rs e i x)=none:=by
   apply Classical.byContradiction;intro hno;refine hall fun i hi=>?_
   cases he:e (itr rs e i x) with
   | none=>exact absurd ⟨i,hi,he⟩ hno
   | some k=>exact ⟨k,rfl⟩
  have least:∀m,(∃i,i < m/\e (itr rs e i x)=none)->∃i,i < m/\e (itr rs e i x)=none/\∀j,j < i->e (itr rs e j x)≠none:=by
   intro m
   induction m with
   | zero=>rintro ⟨i,hi,_⟩;omega
   | succ m ih=>
    intro ⟨i,hi,he⟩
    by_cases hm:∃i,i < m/\e (itr rs e i x)=none
    .obtain ⟨j,h1,h2,h3⟩:=ih hm;exact ⟨j,by omega,h2,h3⟩
    .exact ⟨i,hi,he,fun j hj hn=>hm ⟨j,by omega,hn⟩⟩
  obtain ⟨i,hi,he,hj⟩:=least _ hex;obtain ⟨ws,hb,hl⟩:=zgF (rs:=rs) (e:=e) (x:=x) i 0 (fun a _ ha=>by
   cases h1:e (itr rs e a x) with
   | none=>exact absurd h1 (hj a ∅)
   | some k=>
    obtain ⟨r,hr,_⟩:=B.ent _ k h1;exact ⟨k,r,rfl,hr⟩)
  rw[Nat.zero_add] at hb;exact ⟨_,ws,hb,he,by omega⟩
def FB (rs:List Road) (e:Int->Option Int) (y:Int):Int->List Int->Prop
 | _,[]=>False
 | x,k::ws=>e x=some k/\∃r,zaH rs k=some r/\((r.1=y/\ws=[])\/(r.1≠y/\FB rs e y r.1 ws))
theorem FB.ex {rs:List Road} {e:Int->Option Int} {y:Int}:∀{ws:List Int} {x:Int},ws≠[]->Bk rs e x y ws->∃ws',FB rs e y x ws'/\ws'.length<=ws.length
 | [],_,h,_=>absurd rfl h
 | k::ws,x,_,b=>by
  obtain ⟨e1,r,hr,b'⟩:=b
  by_cases hy:r.1=y
  .exact ⟨[k],⟨e1,r,hr,.inl ⟨hy,rfl⟩⟩,by simp⟩
  .have hne:ws≠[]:=fun z=>by rw[z] at b';exact hy b'
   obtain ⟨ws',h1,h2⟩:=FB.ex hne b';exact ⟨k::ws',⟨e1,r,hr,.inr ⟨hy,h1⟩⟩,by simp;omega⟩
theorem FB.bk {rs:List Road} {e:Int->Option Int} {y:Int}:∀{ws:List Int} {x:Int},FB rs e y x ws->Bk rs e x y ws
 | [],_,h=>h.elim
 | k::ws,x,h=>by
  obtain ⟨e1,r,hr,z⟩:=h;refine ⟨e1,r,hr, ?_⟩;rcases z with ⟨z1,z2⟩ | ⟨_,z2⟩
  .rw[z2];exact z1
  .exact FB.bk z2
theorem FB.ne {rs:List Road} {e:Int->Option Int} {y x:Int} {ws:List Int} (h:FB rs e y x ws):ws≠[]:=fun z=>by rw[z] at h;exact h
theorem FB.uniq {rs:List Road} {e:Int->Option Int} {y:Int}:∀{a b:List Int} {x:Int},FB rs e y x a->FB rs e y x b->a=b
 | [],_,_,h,_=>h.elim
 | _::_,[],_,_,h=>h.elim
 | k::a,j::b,x,h,g=>by
  obtain ⟨e1,r,hr,z⟩:=h;obtain ⟨e2,r2,hr2,z'⟩:=g;rw[e1] at e2;cases e2;rw[hr] at hr2;cases hr2;rcases z with ⟨z1,z2⟩ | ⟨z1,z2⟩
  .rcases z' with ⟨y1,y2⟩ | ⟨y1,y2⟩
   .rw[z2,y2]
   .exact absurd z1 y1
  .rcases z' with ⟨y1,y2⟩ | ⟨y1,y2⟩
   .exact absurd y1 z1
   .rw[FB.uniq z2 y2]
theorem FB.tail {rs:List Road} {e:Int->Option Int} {y z:Int} (hz:z≠y):∀{ws:List Int} {x:Int},FB rs e y x ws->z∈ws.map (zdH rs)->∃ws',FB rs e y z ws'/\ws'.length < ws.length
 | [],_,h,_=>h.elim
 | k::ws,x,h,hm=>by
  obtain ⟨e1,r,hr,w⟩:=h;rw[List.map_cons,zgi hr] at hm;rcases w with ⟨w1,w2⟩ | ⟨w1,w2⟩
  .rw[w2] at hm;simp at hm;exact absurd (hm.trans w1) hz
  .rcases List.mem_cons.mp hm with q | q
   .rw[q];exact ⟨ws,w2,by simp⟩
   .obtain ⟨ws',h1,h2⟩:=FB.tail hz w2 q;exact ⟨ws',h1,by simp;omega⟩
theorem FB.nodup {rs:List Road} {e:Int->Option Int} {y:Int}:∀{ws:List Int} {x:Int},FB rs e y x ws->(ws.map (zdH rs)).Nodup
 | [],_,h=>h.elim
 | k::ws,x,h=>by
  obtain ⟨e1,r,hr,w⟩:=h;rw[List.map_cons,zgi hr];rcases w with ⟨w1,w2⟩ | ⟨w1,w2⟩
  .rw[w2];simp
  .refine List.nodup_cons.mpr ⟨fun hm=>?_,FB.nodup w2⟩;obtain ⟨ws',h1,h2⟩:=FB.tail w1 w2 hm
   have:=FB.uniq h1 w2
   rw[this] at h2;omega
theorem FB.last {rs:List Road} {e:Int->Option Int} {y x:Int} (hz:x≠y) {ws:List Int} (h:FB rs e y x ws):x∉ws.map (zdH rs):=fun hm=>by
 obtain ⟨ws',h1,h2⟩:=FB.tail hz h hm;rw[FB.uniq h1 h] at h2;omega
theorem zjt {n:Int} {rs:List Road} (ok:zay n rs) (s:Int->Int) :
  ((zaz n.toNat rs s).l=none/\Pot rs (zaz n.toNat rs s).h)\/
  ∃v,(zaz n.toNat rs s).l=some v/\(0<=v/\v < n)/\(∀i,i < n.toNat->∃k r,(zaz n.toNat rs s).e (itr rs (zaz n.toNat rs s).e i v)=some k/\zaH rs k=some r)/\
   ∃ws,FB rs (zaz n.toNat rs s).e (itr rs (zaz n.toNat rs s).e n.toNat v) (itr rs (zaz n.toNat rs s).e n.toNat v) ws/\zaK rs ws < 0:=by
 have n0:=ok.n0
 by_cases hn:n.toNat=0
 .left
  rw[hn];refine ⟨rfl,fun r hr=>?_⟩
  have:=(ok.rd r hr).1
  omega
 .have B:=zeb n.toNat rs s;obtain ⟨_,z⟩:=zeY n.toNat ⟨s,fun _=>none,none⟩ _ 0 (BG.first rs s) ∅;rcases z with z | ⟨v,rd,h1,h2,h3⟩
  .exact .inl z
  .right
   change (zaz n.toNat rs s).l=some v at h1
   change ∀x,1<=rd x->∃j r,(zaz n.toNat rs s).e x=some j/\zaH rs j=some r/\rd x<=rd r.1+1 at h3
   generalize zaz n.toNat rs s=b at *;have hv:0<=v/\v < n:=by
    obtain ⟨j,r,e1,e2,_⟩:=h3 v ∅;obtain ⟨r',e3,e4,_⟩:=B.ent v j e1;rw[e2] at e3;cases e3;rw[<-e4];exact (ok.rd r (zbp e2)).2.1
   have hrd:∀i,i<=n.toNat->n.toNat<=rd (itr rs b.e i v)+i:=by
    intro i
    induction i with
    | zero=>intro _;show n.toNat<=rd v+0;omega
    | succ i ih=>
     intro hi;have q:=ih ∅;obtain ⟨j,r,e1,e2,e3⟩:=h3 _ (show 1<=rd (itr rs b.e i v) by omega)
     show n.toNat<=rd (stp rs b.e (itr rs b.e i v))+(i+1)
     rw[zlm e1 e2];omega
   have hen:∀i,i < n.toNat->∃k r,b.e (itr rs b.e i v)=some k/\zaH rs k=some r:=fun i hi=>by
    obtain ⟨j,r,e1,e2,_⟩:=h3 _ (show 1<=rd (itr rs b.e i v) by have:=hrd i ∅;omega);exact ⟨j,r,e1,e2⟩
   refine ⟨v,h1,hv,hen, ?_⟩;obtain ⟨ws,hne,hb,_⟩:=zh4 (rs:=rs) (e:=b.e) (x:=v) (n:=n.toNat) (fun i _=>by have:=zmw ok B hv i;omega) hen;obtain ⟨ws',hf,_⟩:=FB.ex hne hb;exact ⟨ws',hf,B.neg _ ws' hf.ne hf.bk⟩
theorem zdc {n:Int} {rs:List Road} (ok:zay n rs) (T:Taut rs) (s:Int->Int):(zaz n.toNat rs s).l=none/\Pot rs (zaz n.toNat rs s).h:=by
 rcases zjt ok s with z | ⟨v,_,_,_,ws,h1,h2⟩
 .exact z
 .exfalso
  have:=T _ _ (zeD ((zeb n.toNat rs s).leads h1.bk))
  rw[zdR] at this;omega
theorem BI.le {rs:List Road} {s h:Int->Int} {e:Int->Option Int} (B:BI rs s h e) (v:Int):h v<=s v:=by
 cases hh:e v with
 | none=>rw[B.non _ hh];exact Int.le_refl _
 | some j=>obtain ⟨_,_,_,_,q⟩:=B.ent _ _ hh;omega
theorem BI.bk_eq {rs:List Road} {s h:Int->Int} {e:Int->Option Int} (B:BI rs s h e) (P:Pot rs h) {x y:Int} {ws:List Int} (b:Bk rs e x y ws):h x=h y+zaK rs ws:=by
 have h1:=B.tele b;have h2:=P.wk (zeD (B.leads b));rw[zdR] at h2;omega
def farS (one far:Int):Int->Int:=fun x=>if x=one then 0 else far
theorem zlz {n:Int} {rs:List Road} (ok:zay n rs) (T:Taut rs) {one far:Int} {v L:Int} (hv:0<=v/\v < n) (w:Wk rs one v L) (hL:L+1000000000 * (n - 1) < far) :
  ∃ws,Bk rs (zaz n.toNat rs (farS one far)).e v one ws/\(zaz n.toNat rs (farS one far)).e one=none/\(ws.length:Int)<=n - 1/\Dist rs one v (zaK rs ws)/\(zaz n.toNat rs (farS one far)).h v=zaK rs ws/\(zaz n.toNat rs (farS one far)).h one=0:=by
 have B:=zeb n.toNat rs (farS one far);have P:=(zdc ok T (farS one far)).2;generalize zaz n.toNat rs (farS one far)=b at *;obtain ⟨y,ws,hb,hy,hl⟩:=B.root ok T hv;have h1:=B.bk_eq P hb;have h2:b.h one<=0:=by have:=B.le one;unfold farS at this;rw[if_pos rfl] at this;exact this
 have h3:=P.wk w;have hbd:=ze7 ok hb.allIn;have h4:=B.non y hy;have hyo:y=one:=by
  apply Classical.byContradiction;intro hne;unfold farS at h4;rw[if_neg hne] at h4
  have:1000000000 * (ws.length:Int)<=1000000000 * (n - 1):=by omega
  omega
 subst hyo;have h5:b.h y=0:=by rw[h4];unfold farS;rw[if_pos rfl]
 refine ⟨ws,hb,hy,hl,⟨?_,fun M wM=>?_⟩,by omega,h5⟩
 .have:=zeD (B.leads hb)
  rw[zdR] at this;exact this
 .have:=P.wk wM
  omega
theorem zmo {n:Int} {rs:List Road} (ok:zay n rs) (T:Taut rs) {one v L:Int} (hv:0<=v/\v < n) (w:Wk rs one v L):∃d,Dist rs one v d/\-(1000000000 * (n - 1))<=d/\d<=1000000000 * (n - 1):=by
 obtain ⟨ws,h1,_,h3,h4,_⟩:=zlz ok T (far:=L+1000000000 * (n - 1)+1) hv w ∅
 have:=ze7 ok h1.allIn
 exact ⟨_,h4,by omega,by omega⟩
theorem zjW {n:Int} {rs:List Road} (ok:zay n rs) (T:Taut rs) {one v L:Int} (hv:0<=v/\v < n) (w:Wk rs one v L) :
  ∃ws,Bk rs (zaz n.toNat rs 003).e v one ws/\(zaz n.toNat rs 003).e one=none/\(ws.length:Int)<=n - 1/\Dist rs one v (zaK rs ws)/\(zaz n.toNat rs 003).h v=zaK rs ws/\(zaz n.toNat rs 003).h one=0:=by
 obtain ⟨d,h1,h2,h3⟩:=zmo ok T hv w
 have:=ok.n1
 exact zlz ok T hv h1.1 ∅
theorem zq8 {n:Int} {rs:List Road} (ok:zay n rs) (T:Taut rs) {one v:Int} (hv:0<=v/\v < n):-20000000000<=(zaz n.toNat rs 003).h v/\(zaz n.toNat rs 003).h v<=40000000000:=by
 have B:=zeb n.toNat rs 003;have P:=(zdc ok T 003).2;generalize zaz n.toNat rs 003=b at *;obtain ⟨y,ws,hb,hy,hl⟩:=B.root ok T hv;have h1:=B.bk_eq P hb;have h4:=B.non y hy;have hbd:=ze7 ok hb.allIn;have h5:=B.le v;have n1:=ok.n1;have c:∀x,0<=farS one 40000000000 x/\farS one 40000000000 x<=40000000000:=fun x=>by unfold farS;split<;>omega
 have:=c y
 have:=c v
 omega
open Classical in
def ziQ (S:Int->Prop):Option Int:=if h:∃d,S d/\∀L,S L->d<=L then some h.choose else none
theorem leastO_some {S:Int->Prop} {d:Int}:ziQ S=some d↔S d/\∀L,S L->d<=L:=by
 unfold ziQ;constructor
 .intro e
  by_cases h:∃d,S d/\∀L,S L->d<=L
  .rw[dif_pos h] at e;cases e;exact h.choose_spec
  .rw[dif_neg h] at e;cases e
 .intro g;have h:∃d,S d/\∀L,S L->d<=L:=⟨d,g⟩;rw[dif_pos h];have a:=h.choose_spec.2 d g.1;have b:=g.2 _ h.choose_spec.1;exact congrArg some ∅
def zao (n:Nat) (rs:List Road):Tab:=(List.range n).map fun i:Nat=>(List.range n).map fun j:Nat=>ziQ (Wk rs i j)
theorem zeh (n:Nat) (rs:List Road):Shape n (zao n rs):=⟨by simp[zao],fun r hr=>by
 unfold zao at hr;obtain ⟨i,_,rfl⟩:=List.mem_map.mp hr;simp⟩
theorem ziy {n p q:Int} {rs:List Road} (hp:0<=p/\p < n) (hq:0<=q/\q < n):cell 03 p.toNat q.toNat=ziQ (Wk rs p q):=by
 have a:p.toNat < n.toNat:=by omega
 have b:q.toNat < n.toNat:=by omega
 have e:((p.toNat:Nat):Int)=p:=by omega
 have f:((q.toNat:Nat):Int)=q:=by omega
 unfold cell zao;simp[a,b];rw[show max p 0=p by omega,show max q 0=q by omega]
theorem zeX {n:Int} {rs:List Road} (ok:zay n rs) (T:Taut rs) {p q:Int} (hp:0<=p/\p < n) (hq:0<=q/\q < n) {d:Int}:cell 03 p.toNat q.toNat=some d↔Dist rs p q d:=by
 rw[ziy hp hq];exact leastO_some
theorem zeZ {n:Int} {rs:List Road} (ok:zay n rs) (T:Taut rs) {p q:Int} (hp:0<=p/\p < n) (hq:0<=q/\q < n):cell 03 p.toNat q.toNat=none↔∀L,¬Wk rs p q L:=by
 rw[ziy hp hq];constructor
 .intro e L w;obtain ⟨d,h,_⟩:=zmo ok T hq w;rw[leastO_some.mpr h] at e;cases e
 .intro h
  cases e:ziQ (Wk rs p q) with
  | none=>rfl
  | some d=>exact absurd (leastO_some.mp e).1 (h d)
end My
namespace L2
open PySem
theorem zbZ {G:GF} {S:SF} {items:List O} {ρ:Rho} (I:Nat->Rho->Prop) (h0:I 0 ρ) (hs:∀i x ρ,items[i]? = some x->I i ρ->∃ρ1 ρ2,G x ρ=some ρ1/\S ρ1=.nx ρ2/\I (i+1) ρ2):∃ρ',forF G S items ρ=.nx ρ'/\I items.length ρ':=by
 induction items generalizing ρ I with
 | nil=>exact ⟨ρ,rfl,h0⟩
 | cons x xs ih=>
  obtain ⟨ρ1,ρ2,e1,e2,h1⟩:=hs 0 x ρ rfl h0;obtain ⟨ρ',e3,h3⟩:=ih (I:=fun i=>I (i+1)) (ρ:=ρ2) h1 fun i y ρ hy hi=>hs (i+1) y ρ (by simpa using hy) hi
  exact ⟨ρ',by rw[forF,e1];dsimp only;rw[e2];exact e3,by simpa using h3⟩
theorem zqe {js:List 015} {G:GF} {T:TF} {A:EF} {items:List O} {ρ:Rho} {acc:List O} {q:Bool} (I:Nat->Rho->List O->Prop) (h0:I 0 ρ acc)
  (hs:∀i x ρ acc,items[i]? = some x->I i ρ acc->∃ρ1 ρ2 b q2,G x (zdp js ρ)=some ρ1/\T ρ1=.ok b ρ2 q2/\((b=true/\∃r ρ3 q3 o ρ4,A ρ2=.ok r ρ3 q3/\coe ρ3 r=some (o,ρ4)/\I (i+1) (zcb js ρ4 (clrR js ρ)) (acc++[o]))\/(b=false/\I (i+1) (zcb js ρ2 (clrR js ρ)) acc))) :
  ∃os ρ' q',lcF js G T A items ρ acc q=.ok os ρ' q'/\I items.length ρ' os:=by
 induction items generalizing ρ acc q I with
 | nil=>exact ⟨acc,ρ,q,rfl,h0⟩
 | cons x xs ih=>
  obtain ⟨ρ1,ρ2,b,q2,e1,e2,h⟩:=hs 0 x ρ acc rfl h0;rcases h with ⟨rfl,r,ρ3,q3,o,ρ4,e3,e4,h1⟩ | ⟨rfl,h1⟩
  .obtain ⟨os,ρ',q',e5,h5⟩:=ih (I:=fun i=>I (i+1)) (ρ:=zcb js ρ4 (clrR js ρ)) (acc:=acc++[o]) (q:=q&&q2&&q3) h1 fun i y ρ acc hy hi=>hs (i+1) y ρ acc (by simpa using hy) hi
   exact ⟨os,ρ',q',by rw[lcF,e1];dsimp only;rw[e2];dsimp only;rw[if_pos rfl,e3];dsimp only;rw[e4];exact e5,by simpa using h5⟩
  .obtain ⟨os,ρ',q',e5,h5⟩:=ih (I:=fun i=>I (i+1)) (ρ:=zcb js ρ2 (clrR js ρ)) (acc:=acc) (q:=q&&q2) h1 fun i y ρ acc hy hi=>hs (i+1) y ρ acc (by simpa using hy) hi
   exact ⟨os,ρ',q',by rw[lcF,e1];dsimp only;rw[e2];dsimp only;rw[if_neg Bool.false_ne_true];exact e5,by simpa using h5⟩
theorem zds {js:List 015} {G:GF} {T:TF} {A:EF} {ρ:Rho} (p:O->Bool) (f:O->O):∀{items:List O} {acc:List O} {q:Bool},
  (∀x∈items,∃ρ1 ρ2 q2,G x (zdp js ρ)=some ρ1/\T ρ1=.ok (p x) ρ2 q2/\(p x=true->∃r ρ3 q3 ρ4,A ρ2=.ok r ρ3 q3/\coe ρ3 r=some (f x,ρ4)/\zcb js ρ4 (clrR js ρ)=ρ)/\(p x=false->zcb js ρ2 (clrR js ρ)=ρ))->
  ∃q',lcF js G T A items ρ acc q=.ok (acc++(items.filter p).map f) ρ q'
 | [],acc,q,_=>⟨q,by simp[lcF]⟩
 | x::xs,acc,q,h=>by
  obtain ⟨ρ1,ρ2,q2,e1,e2,ht,hf⟩:=h x List.mem_cons_self;have h':∀y∈xs,_:=fun y hy=>h y (List.mem_cons_of_mem _ hy)
  cases hp:p x with
  | true=>
   obtain ⟨r,ρ3,q3,ρ4,e3,e4,e5⟩:=ht hp;obtain ⟨q',e⟩:=zds p f (items:=xs) (acc:=acc++[f x]) (q:=q&&q2&&q3) h';refine ⟨q', ?_⟩;rw[lcF,e1];dsimp only;rw[e2,hp];dsimp only;rw[if_pos rfl,e3];dsimp only;rw[e4];dsimp only;rw[e5,e,List.filter_cons,if_pos hp];simp
  | false=>
   obtain ⟨q',e⟩:=zds p f (items:=xs) (acc:=acc) (q:=q&&q2) h';refine ⟨q', ?_⟩;rw[lcF,e1];dsimp only;rw[e2,hp];dsimp only;rw[if_neg Bool.false_ne_true,hf hp,e,List.filter_cons,if_neg (by rw[hp];exact Bool.false_ne_true)]
@[simp] theorem ztG (G:GF) (S:SF) (ρ:Rho):forF G S [] ρ=.nx ρ:=rfl
theorem zeq {j:Int} (h0:-4611686018427387904<=j) (h1:j < 4611686018427387904):okR j=true:=decide_eq_true ⟨by omega,by omega⟩
@[simp] theorem zto (I:Rho->Re (List O)) (G:GF) (S:SF) (ρ:Rho):sFor I G S ρ=match I ρ with
 | .bad=>.bad
 | .ex c ρ'=>.ex c ρ'
 | .ok items ρ' _=>forF G S items ρ':=rfl
@[simp] theorem zsY (I:Rho->Re (Src×Bool)) (G:GF) (S:SF) (ρ:Rho):zfD I G S ρ=match I ρ with
 | .bad=>.bad
 | .ex c ρ'=>.ex c ρ'
 | .ok ((items,_),_) ρ' _=>forF G S items ρ':=rfl
def gR (j:Int) (ρ1:Rho) (q:Bool):Re (List O):=if okR j then .ok (rngO 0 j.toNat) ρ1 q else .bad
theorem zi6 {j:Int} {ρ1:Rho} {q:Bool} (h:okR j=true):gR j ρ1 q=.ok (rngO 0 j.toNat) ρ1 q:=if_pos h
@[simp] theorem ztj (A:EF) (ρ:Rho):itR1 A ρ=(eSc decI A ρ).bind gR:=rfl
@[simp] theorem zuh (A:EF) (ρ:Rho):itE A ρ=(A ρ).bind fun r ρ1 q=>match coe ρ1 r with
 | some (o,ρ2)=>match fz o with
  | some (.list ds)=>.ok (zcy 0 ds) ρ2 q
  | _=>.bad
 | none=>.bad:=rfl
@[simp] theorem ztp (view:Bool) (mk:List PyData->List O) (A:EF) (ρ:Rho):srcM view mk A ρ=(A ρ).bind fun r ρ1 q=>match (if view then zeH ρ1 r else none) with
 | some (ds,k,i,oi)=>.ok ((mk ds,some (i,oi)),k) (ρ1.set i .z) q
 | none=>match cov ρ1 r with
  | some (ds,k,ρ2)=>.ok ((mk ds,none),k) ρ2 q
  | none=>.bad:=rfl
@[simp] theorem zuB (ρ:Rho) (r:Rv):cov ρ r=match coe ρ r with
 | some (o,ρ2)=>match fz o with
  | some (.list ds)=>some (ds,true,ρ2)
  | some (.tuple ds)=>some (ds,false,ρ2)
  | _=>none
 | none=>none:=rfl
@[simp] theorem ztr (take:Rho->Rv->Option (O×Rho)) (A C B:EF) (ρ:Rho):sSub take A C B ρ=match A ρ with
 | .bad=>.bad
 | .ex c ρ'=>.ex c ρ'
 | .ok r ρ' _=>match take ρ' r with
  | none=>.bad
  | some (o,ρ1)=>match C ρ1 with
   | .bad=>.bad
   | .ex c ρ'=>.ex c ρ'
   | .ok rc ρ2 _=>match eSc decI B ρ2 with
    | .bad=>.bad
    | .ex c ρ'=>.ex c ρ'
    | .ok k ρ3 q3=>if pok ρ2 q3 rc then match zeI ρ3 rc fun os=>(ixN os.length k).map fun j=>os.set j o with
      | some ρ4=>.nx ρ4
      | none=>.bad
     else .bad:=rfl
@[simp] theorem zi3 (ρ:Rho) (i:Nat) (h:List O->Option (List O)):zeI ρ (.at i []) h=match ρ[i]? with
  | some (.l os)=>match h os with
   | some os'=>some (ρ.set i (.l os'))
   | none=>none
  | _=>none:=by
 rw[zeI]
 cases ρ[i]? with
 | none=>rfl
 | some o=>
  cases o with
  | l os=>(simp[put])<;>(cases h os<;>rfl)
  | _=>rfl
@[simp] theorem zdE (ρ:Rho) (i:Nat) (k:Int):gIx ρ (.at i []) k=match ρ[i]? with
  | some .z=>none
  | some o=>match els o with
   | some (_,os)=>match ixN os.length k with
    | some j=>match os[j]? with
     | some c=>ze0 (.at i []) j c
     | none=>none
    | none=>none
   | none=>(fIxS o k).map Rv.own
  | none=>none:=by
 unfold gIx;rw[zoD]
 cases ρ[i]? with
 | none=>rfl
 | some o=>cases o<;>rfl
@[simp] theorem zcK (ρ:Rho) (o:O) (k:Int):gIx ρ (.own o) k=match nz (some o) with
  | none=>none
  | some o=>match els o with
   | some (_,os)=>match ixN os.length k with
    | some j=>match os[j]? with
     | some c=>ze0 (.own o) j c
     | none=>none
    | none=>none
   | none=>(fIxS o k).map Rv.own:=by
 unfold gIx
 have:vn ρ (.own o)=nz (some o):=by cases o<;>rfl
 rw[this]
 cases o<;>rfl
@[simp] theorem ztU (r:Rv) (k:Nat) (x:PyData):ze0 r k (.d x)=some (.own (.d x)):=rfl
@[simp] theorem ztB (C A:EF) (ρ:Rho):eApp C A ρ=(C ρ).bind fun rc ρ1 q1=>if isL ρ1 rc then (A ρ1).bind fun ra ρ2 q2=>if pok ρ1 q2 rc then match coe ρ2 ra with
  | some (o,ρ3)=>match zeI ρ3 rc fun os=>if os.length < sizeLine then some (os++[o]) else none with
   | some ρ4=>.ok (.own 042) ρ4 false
   | none=>.bad
  | none=>.bad
 else .bad else .bad:=rfl
def lsy:Option O->Bool
 | some (.l _)=>true
 | some (.d (.list _))=>true
 | _=>false
@[simp] theorem zvE (os:List O):lsy (some (.l os))=true:=rfl
@[simp] theorem zvH (os:List PyData):lsy (some (.d (.list os)))=true:=rfl
@[simp] theorem zvC (ρ:Rho) (i:Nat):isL ρ (.at i [])=lsy ρ[i]? := by
 unfold isL;rw[zoD]
 cases ρ[i]? with
 | none=>rfl
 | some o=>
  cases o with
  | d x=>cases x<;>rfl
  | _=>rfl
@[simp] theorem zo5 (I:Rho->Re (List O)) (js:List (Option Nat)) (G:GF) (T:TF) (A:EF) (ρ:Rho):eLC I js G T A ρ=match I ρ with
 | .bad=>.bad
 | .ex c ρ'=>.ex c ρ'
 | .ok items ρ1 q1=>if items.length<=sizeLine then match lcF js G T A items ρ1 [] true with
   | .ok os ρ2 q2=>.ok (.own (.l os)) ρ2 (q1&&q2)
   | _=>.bad
  else .bad:=rfl
@[simp] theorem ztY (I:Rho->Re (Src×Bool)) (js:List (Option Nat)) (G:GF) (T:TF) (A:EF) (ρ:Rho):eLS I js G T A ρ=match I ρ with
 | .bad=>.bad
 | .ex c ρ'=>.ex c ρ'
 | .ok ((items,rs),_) ρ1 q1=>if items.length<=sizeLine then match lcF js G T A items ρ1 [] true with
   | .ok os ρ2 q2=>.ok (.own (.l os)) (ziK rs ρ2) (q1&&q2)
   | _=>.bad
  else .bad:=rfl
@[simp] theorem zqG (ρ:Rho):ziK none ρ=ρ:=rfl
@[simp] theorem zqE (ρ:Rho) (i:Nat) (o:O):ziK (some (i,o)) ρ=ρ.set i o:=rfl
@[simp] theorem zcN (lo:Int) (n:Nat):(rngO lo n).length=n:=by simp[rngO]
theorem zda {lo:Int} {n i:Nat} {x:O} (h:(rngO lo n)[i]? = some x):i < n/\x=⇑(lo+i):=by
 unfold rngO at h;rw[List.getElem?_map] at h
 by_cases hi:i < n
 .rw[List.getElem?_range hi] at h;cases h;exact ⟨hi,rfl⟩
 .rw[List.getElem?_eq_none (by simp;omega)] at h;cases h
@[simp] theorem zu9:mkT []=.d (.tuple []):=rfl
@[simp] theorem zvq (x y:PyData):mkT [.d x,.d y]=.d (.tuple [x,y]):=rfl
@[simp] theorem zvt (x y z:PyData):mkT [.d x,.d y,.d z]=.d (.tuple [x,y,z]):=rfl
@[simp] theorem zvg (x:PyData):mkT [.d x]=.d (.tuple [x]):=rfl
end L2
namespace My
open PySem L2
theorem znL {b c:Int} (hb0:0<=b) (hb:b < 2147483647) (hc0:0<=c) (hc:c < 4611686018427387904):∃n:Int,zcl [⇑b,⇑c]=.ok ⇑n []/\0<=n/\n < 2147483587:=by
 have x0:=Int.emod_nonneg (b * 1103515245+7919 * c * c+c+1) (b:=2147483647) (by decide);have x1:=Int.emod_lt_of_pos (b * 1103515245+7919 * c * c+c+1) (b:=2147483647) (by decide);have m1:fMul ⇑b ⇑1103515245=some ⇑(b * 1103515245):=ziL (by decide) (by decide);have m2:fMul ⇑7919 ⇑c=some ⇑(7919 * c):=zin (by decide) (by decide);have m3:fMul ⇑(7919 * c) ⇑c=some ⇑(7919 * c * c):=ziL ∅ ∅;have d1:fMod ⇑(b * 1103515245+7919 * c * c+c+1) ⇑2147483647=some ⇑((b * 1103515245+7919 * c * c+c+1) % 2147483647):=zfu (by decide);generalize (b * 1103515245+7919 * c * c+c+1) % 2147483647=x at *;have m4:fMul ⇑x ⇑x=some ⇑(x * x):=ziL ∅ ∅;have d2:fMod ⇑(x * x+69621) ⇑2147483629=some ⇑((x * x+69621) % 2147483629):=zfu (by decide);generalize (x * x+69621) % 2147483629=y at *;have m5:fMul ⇑y ⇑48271=some ⇑(y * 48271):=ziL (by decide) (by decide);have d3:fMod ⇑(y * 48271) ⇑2147483587=some ⇑(y * 48271 % 2147483587):=zfu (by decide);refine ⟨y * 48271 % 2147483587, ?_,Int.emod_nonneg _ (by decide),Int.emod_lt_of_pos _ (by decide)⟩;unfold zcl zd6;exact (zaY rfl (zag (zap (zal (zal (zal (zal (zal rfl rfl rfl rfl rfl m1) (zal (zal rfl rfl rfl rfl rfl m2) rfl rfl rfl rfl m3) rfl rfl rfl rfl) rfl rfl rfl rfl rfl) rfl rfl rfl rfl rfl) rfl rfl rfl rfl d1) rfl rfl) (zag (zap (zal (zal (zal rfl rfl rfl rfl rfl m4) rfl rfl rfl rfl rfl) rfl rfl rfl rfl d2) rfl rfl) (zaL (zal (zal rfl rfl rfl rfl rfl m5) rfl rfl rfl rfl d3) rfl))) rfl)
structure PuOk (p:O) (m:Int):Prop where
 ex:∃a b c:Int,p=.l [⇑a,⇑b,⇑c]/\0<=a/\0<=b/\b < 2147483647/\0<=c/\c<=m
theorem PuOk.sh {p:O} {m:Int} (h:PuOk p m):∃a b c:Int,p=.l [⇑a,⇑b,⇑c]:=by
 obtain ⟨a,b,c,e,_⟩:=h.ex;exact ⟨a,b,c,e⟩
theorem PuOk.mono {p:O} {m m':Int} (h:PuOk p m) (l:m<=m'):PuOk p m':=by
 obtain ⟨a,b,c,e,h0,h1,h2,h3,h4⟩:=h.ex;exact ⟨a,b,c,e,h0,h1,h2,h3,by omega⟩
theorem zuP (ns:List Int) {k:Int} (h:0<=k):∃n:Int,zc9 [.q 014,⇑k]=.ok ⇑n []:=by
 unfold zc9 zfg
 by_cases hk:k < ns.length
 .obtain ⟨j,rfl⟩:∃j:Nat,k=j:=⟨k.toNat,by omega⟩;have hj:j < ns.length:=by omega
  have:atI 014 (j:Int)=some (.int ns[j]):=zpb (by rw[List.getElem?_map,List.getElem?_eq_getElem hj];rfl)
  simp[hj,fIxS,this]
 .simp[hk]
theorem znN (ns:List Int) {k:Int} (h:0<=k) (h2:k<=63):∃p,zbS [.q 014,⇑k]=.ok p []/\PuOk p 63000:=by
 obtain ⟨n,e⟩:=zuP ns h;unfold zbS zd1;refine ⟨.l [⇑(if n - 1000000000000000000 < 0 then 0 else n - 1000000000000000000),⇑(n % 2147483647),⇑(1000 * k)], ?_,⟨_,_,_,rfl, ?_⟩⟩
 .have fp:fPow ⇑10 ⇑18=some ⇑1000000000000000000:=rfl;have fm:fMod ⇑n ⇑2147483647=some ⇑(n % 2147483647):=zfu (by decide);have mu:fMul ⇑1000 ⇑k=some ⇑(1000 * k):=zin (by decide) (by decide);exact (zaY rfl (zag (zap (zaN 00 rfl e rfl) rfl rfl) (zaL (zaw (zab (zgT (zab (zal rfl (zal rfl rfl rfl rfl rfl fp) rfl rfl rfl rfl) 009 rfl) rfl rfl) (zab (zal rfl rfl rfl rfl rfl fm) (zab (zal rfl rfl rfl rfl rfl mu) rfl rfl) rfl) rfl) rfl 079 rfl) rfl)) rfl)
 split<;>omega
theorem zp3 {n:Int} (h0:0 < n) (h1:n < 1267650600228229401496703205376):0<=(Builtin.Int.intBits n:Int) / 30/\(Builtin.Int.intBits n:Int) / 30<=3:=by
 have:Builtin.Int.intBits n<=100:=by
  unfold Builtin.Int.intBits;split
  .omega
  .rename_i hz
   have:n.natAbs.log2 < 100:=(Nat.log2_lt ∅).mpr (by
    have:n.natAbs < 1267650600228229401496703205376:=by omega
    exact this)
   omega
 omega
theorem zmL {a b c n:Int} {K:Nat} (hK:K<=4) (b0:0<=b) (b1:b < 2147483647) (c0:0<=c) (c1:c<=3000000000000000000):∃(N c':Int) (z:O),forF (gtN 4) zb7 (rngO 0 K) [.l [⇑a,⇑b,⇑c],⇑n,.z,⇑0,.z]=.nx [.l [⇑a,⇑b,⇑c'],⇑n,.z,⇑N,z]/\c<=c'/\c'<=c+4:=by
 obtain ⟨ρ',e,N,c',z,rfl,hc0,hc1⟩:=zbZ (G:=gtN 4) (S:=zb7) (items:=rngO 0 K) (ρ:=[.l [⇑a,⇑b,⇑c],⇑n,.z,⇑0,.z])
   (fun i ρ=>∃(N c':Int) (z:O),ρ=[.l [⇑a,⇑b,⇑c'],⇑n,.z,⇑N,z]/\c<=c'/\c'<=c+i) ⟨0,c,.z,rfl,by omega,by omega⟩ (fun i x ρ hx hx__=>by
    obtain ⟨N,c',z,e,h1,h2⟩:=hx__;obtain ⟨hi,rfl⟩:=zda hx;subst e;obtain ⟨k,ek,_,_⟩:=znL (b:=b) (c:=c'+1) b0 b1 ∅ ∅;refine ⟨_,[.l [⇑a,⇑b,⇑(c'+1)],⇑n,.z,⇑(N * 2147483587+k),⇑(0+i)],by exact rfl, ?_,_,_,_,rfl,by omega,by omega⟩;unfold zb7;simp (disch:=omega) [ixN,ziL,ek])
 rw[zcN] at hc1;exact ⟨N,c',z,e,hc0,by omega⟩
theorem zct {p:O} {m n:Int} (hp:PuOk p m) (hm:m<=2305843009213693952) (h0:1<=n) (h1:n < 1267650600228229401496703205376):∃(r:Int) (p':O),zak [p,⇑n]=.ok ⇑r [p']/\0<=r/\r < n/\PuOk p' (m+4):=by
 obtain ⟨a,b,c,rfl,a0,b0,b1,c0,c1⟩:=hp.ex;unfold zak zet
 by_cases ha:0 < a
 .have q0:=Int.emod_nonneg a (by omega:n≠0);have q1:=Int.emod_lt_of_pos a (by omega:0 < n);refine ⟨a % n,.l [⇑(a / n),⇑b,⇑c], ?_,q0,q1,⟨_,_,_,rfl,Int.ediv_nonneg a0 ∅,b0,b1,c0,by omega⟩⟩;simp (disch:=first | assumption | omega) [ixN,ha,zfu,zkE]
 .have hb:=zp3 (by omega:0 < n) h1;have hB:zkH ⇑n=some ⇑(Builtin.Int.intBits n):=rfl;generalize (Builtin.Int.intBits n:Int)=B at hb hB;have hr:okR (1+B / 30)=true:=zeq ∅ ∅;obtain ⟨N,c',z,e,hc0,hc1⟩:=zmL (a:=a) (b:=b) (c:=c) (n:=n) (K:=(1+B / 30).toNat) ∅ b0 b1 c0 ∅;refine ⟨N % n,.l [⇑a,⇑b,⇑c'], ?_,Int.emod_nonneg _ ∅,Int.emod_lt_of_pos _ ∅,⟨_,_,_,rfl,a0,b0,b1,by omega,by omega⟩⟩;clear h1 hm;simp -implicitDefEqProofs (disch:=first | assumption | omega) [ixN,ha,zfu,zlQ,-zph,hB,zi6 hr,e]
theorem zkf (a b c d lo hi:Int) {g:Int} (h0:0<=g) (h1:g < 4) (ha:lo<=a/\a<=hi) (hb:lo<=b/\b<=hi) (hc:lo<=c/\c<=hi) (hd:lo<=d/\d<=hi):∃f:Int,([⇑a,⇑b,⇑c,⇑d]:List O)[g.toNat]? = some ⇑f/\lo<=f/\f<=hi:=by
 have hg:g=0\/g=1\/g=2\/g=3:=by omega
 rcases hg with rfl | rfl | rfl | rfl
 .exact ⟨a,rfl,ha⟩
 .exact ⟨b,rfl,hb⟩
 .exact ⟨c,rfl,hc⟩
 .exact ⟨d,rfl,hd⟩
theorem zm3 {p:O} {m x:Int} (hp:PuOk p m) (hm:m<=1152921504606846976) (h0:1<=x) (h1:x<=4611686018427387904):∃(r:Int) (p':O),zcd [p,⇑x]=.ok ⇑r [p']/\-(max x 30)<=r/\r<=max x 30/\PuOk p' (m+8):=by
 obtain ⟨M,hM,hx,h30,hMx⟩:∃M:Int,max x 30=M/\x<=M/\30<=M/\M<=4611686018427387904:=⟨max x 30,rfl,by omega,by omega,by omega⟩;rw[hM];clear hM;obtain ⟨g,p1,e1,g0,g1,hp1⟩:=zct hp ∅ (n:=4) (by decide) (by decide);have key:∀f:Int,1<=f->f<=M->∃(r:Int) (p':O),zak [p1,⇑(2 * f+1)]=.ok ⇑r [p']/\0<=r/\r < 2 * f+1/\PuOk p' (m+8):=fun f f0 f1=>by
  obtain ⟨r,p2,e2,r0,r1,hp2⟩:=zct hp1 ∅ (n:=2 * f+1) ∅ ∅;exact ⟨r,p2,e2,r0,r1,hp2.mono ∅⟩
 obtain ⟨a,b,c,rfl⟩:=hp.sh;obtain ⟨a1,b1,c1,rfl⟩:=hp1.sh;obtain ⟨f,hf,hv0,hv1⟩:=zkf 1 4 30 x 1 M g0 g1 ⟨by decide,by omega⟩ ⟨by decide,by omega⟩ ⟨by decide,h30⟩ ⟨h0,hx⟩;obtain ⟨r,p2,e2,r0,r1,hp2⟩:=key f hv0 hv1;obtain ⟨a2,b2,c2,rfl⟩:=hp2.sh;refine ⟨r - f,.l [⇑a2,⇑b2,⇑c2], ?_,by omega,by omega,hp2⟩;have gg:∀ρ:Rho,gIx ρ (.own (.l [⇑1,⇑4,⇑30,⇑x])) g=some (.own ⇑f):=fun ρ=>zj9 hf g0 g1
 have m2:fMul ⇑2 ⇑f=some ⇑(2 * f):=zin ∅ ∅;unfold zcd zdI;exact (zaY rfl (zag (zap (zbt (zaw 061 rfl 079 rfl) (zaC 0006 rfl rfl) rfl (gg _)) rfl rfl) (zaL (zal (zaI (zab rfl (zab (zal (zal rfl rfl rfl rfl rfl m2) rfl rfl rfl rfl rfl) rfl rfl) rfl) rfl e2 rfl rfl) rfl rfl rfl rfl rfl) rfl)) rfl)
def zbP (rs:List Road):O:=.l (rs.map fun r=>.d (zaG r))
def zad (hs:List Int):O:=.l (hs.map fun h=>⇑h)
@[simp] theorem ztv (ρ:Rho):clrR [] ρ=ρ:=rfl
@[simp] theorem zrR (js:List (Option Nat)) (ρ:Rho):clrR (none::js) ρ=clrR js ρ:=rfl
@[simp] theorem zsi (i:Nat) (js:List (Option Nat)) (ρ:Rho):clrR (some i::js) ρ=clrR js (ρ.set i .z):=rfl
@[simp] theorem zr1 (ρ:Rho):zdp [] ρ=[]:=rfl
@[simp] theorem zqB (js:List (Option Nat)) (ρ:Rho):zdp (none::js) ρ=.z::zdp js ρ:=rfl
@[simp] theorem zqC (i:Nat) (js:List (Option Nat)) (ρ:Rho):zdp (some i::js) ρ=(ρ[i]?).getD .z::zdp js ρ:=rfl
@[simp] theorem zq6 (r ρ:Rho):zcb [] r ρ=ρ:=by cases r<;>rfl
@[simp] theorem zqy (js:List (Option Nat)) (o:O) (r ρ:Rho):zcb (none::js) (o::r) ρ=zcb js r ρ:=rfl
@[simp] theorem zqA (i:Nat) (js:List (Option Nat)) (o:O) (r ρ:Rho):zcb (some i::js) (o::r) ρ=zcb js r (ρ.set i o):=rfl
theorem zud {p:O} {m:Int} (n:Nat) (ws:List O) (hp:PuOk p m) (hm:m<=1125899906842624) (hn:n<=20):∃(hs:List Int) (p':O) (q:Bool),lcF [none,some 0] (gtN 0) 055 zbR (rngO 0 n) (p::ws) [] true=.ok (hs.map fun h=>⇑h) (p'::ws) q/\hs.length=n/\(∀h∈hs,-100000000<=h/\h<=100000000)/\PuOk p' (m+160):=by
 have:=zqe (js:=[none,some 0]) (G:=gtN 0) (T:=gRet true) (A:=zbR) (items:=rngO 0 n) (ρ:=p::ws) (acc:=[]) (q:=true)
  (fun i ρ acc=>∃(hs:List Int) (p':O),ρ=p'::ws/\acc=hs.map (fun h=>⇑h)/\hs.length=i/\(∀h∈hs,-100000000<=h/\h<=100000000)/\PuOk p' (m+8 * i)) ⟨[],p,rfl,rfl,rfl,by simp,by simpa using hp⟩
  (fun i x ρ acc hx hx__=>by
   obtain ⟨hs,p',e,ea,hl,hb,hp'⟩:=hx__;obtain ⟨hi,rfl⟩:=zda hx;subst e ea;obtain ⟨r,p2,e2,r0,r1,hp2⟩:=zm3 hp' ∅ (x:=100000000) (by decide) (by decide);obtain ⟨_,_,_,rfl⟩:=hp'.sh;obtain ⟨a2,b2,c2,rfl⟩:=hp2.sh;refine ⟨_,_,true,true,by simp;rfl,by simp;rfl,.inl ⟨rfl,.own ⇑r,[⇑i,.l [⇑a2,⇑b2,⇑c2]],false,⇑r,_, ?_,by simp;rfl,hs++[r],_, ?_,by simp,by simp[hl], ?_,hp2.mono ∅⟩⟩
   .unfold zbR;exact (zaI (zab rfl (zab 04 rfl rfl) rfl) rfl e2 rfl rfl)
   .exact rfl
   .intro h hh;rcases List.mem_append.mp hh with hh | hh
    .exact hb h hh
    .obtain rfl:=List.mem_singleton.mp hh
     omega)
 obtain ⟨os,ρ',q',e,hs,p',rfl,rfl,hl,hb,hp'⟩:=this;rw[zcN] at hl hp';exact ⟨hs,p',q',e,hl,hb,hp'.mono ∅⟩
theorem znP {p:O} {m c:Int} {w1 w2:O} (hp:PuOk p m) (hm:m<=1125899906842624) (c0:0<=c) (c1:c<=20):∃(hs:List Int) (p':O) (q:Bool),eLC (itR1 (zaa 3)) [none,some 0] (gtN 0) 055 zbR [p,w1,w2,⇑c,.z,.z,.z,.z,.z,.z]=.ok (.own (zad hs)) [p',w1,w2,⇑c,.z,.z,.z,.z,.z,.z] q/\hs.length=c.toNat/\(∀h∈hs,-100000000<=h/\h<=100000000)/\PuOk p' (m+160):=by
 have hr:okR c=true:=zeq ∅ ∅;obtain ⟨hs,p',q',e,hl,hb,hp'⟩:=zud c.toNat [w1,w2,⇑c,.z,.z,.z,.z,.z,.z] hp hm ∅;refine ⟨hs,p',q', ?_,hl,hb,hp'⟩;obtain ⟨_,_,_,rfl⟩:=hp.sh;simp (disch:=omega) [zi6 hr,e,zbW,zad]
theorem zcY {A B:SF} {ρ ρ':Rho} (h:A ρ=.nx ρ'):sSeq A B ρ=B ρ':=by simp[h]
theorem zlN {p:O} {m:Int} {w1 w2 w3 w4 w5 w6 w7 w8 w9:O} (hp:PuOk p m) (hm:m<=1125899906842624):∃(s:Int) (p':O),(sAsg coe (eIx (zaA coes .l (zac ↥0 (zac ↥0 (zac 099 (zac (zah 086 zak (zac (zaa 0) (zac (e2 ↥10 ↥8 fPow) aNil))) aNil))))) 099) (gtN 9)) [p,w1,w2,w3,w4,w5,w6,w7,w8,w9]=.nx [p',w1,w2,w3,w4,w5,w6,w7,w8,⇑s]/\0<=s/\s<=100000000/\PuOk p' (m+12):=by
 refine hide fun P key=>?_
 obtain ⟨a1,b1,c1,rfl⟩:=hp.sh;obtain ⟨d1,p1,e1,l1,u1,hp1⟩:=zct hp ∅ (n:=4) (by decide) (by decide);obtain ⟨a1,b1,c1,rfl⟩:=hp1.sh;obtain ⟨d2,p2,e2,l2,u2,hp2⟩:=zct hp1 ∅ (n:=100000000) (by decide) (by decide);obtain ⟨a1,b1,c1,rfl⟩:=hp2.sh;obtain ⟨d3,p3,e3,l3,u3,hp3⟩:=zct hp2 ∅ (n:=4) (by decide) (by decide);obtain ⟨a1,b1,c1,rfl⟩:=hp3.sh;obtain ⟨s,hs,hv0,hv1⟩:=zkf 0 0 d1 d2 0 100000000 l3 u3 ∅ ∅ ∅ ∅;have gg:∀ρ:Rho,gIx ρ (.own (.l [⇑0,⇑0,⇑d1,⇑d2])) d3=some (.own ⇑s):=fun ρ=>zj9 hs l3 u3
 have fp:fPow ⇑10 ⇑8=some ⇑100000000:=rfl;exact key ⟨s,_,by exact (zap (zbt (zaw (zab rfl (zab rfl (zab 0006 (zab (zaI (zab rfl (zab (zal rfl rfl rfl rfl rfl fp) rfl rfl) rfl) rfl e2 rfl rfl) rfl rfl) rfl) rfl) rfl) rfl 079 rfl) (zaC (zaI 00 rfl e3 rfl rfl) rfl rfl) rfl (gg _)) rfl rfl),hv0,hv1,hp3.mono ∅⟩
theorem zo2 {p w1 w2 w3 w6:O} {hs:List Int} {rs:List Road} {i j s:Int} (hi:0<=i/\i < hs.length) (hj:0<=j/\j < hs.length) (hl:rs.length<=1000):(zbd (eApp (zaa 5) (zaA coes mkT (zac (zaa 7) (zac (zaa 8) (zac (e2 (e2 (eIx (zaa 4) (zaa 8)) (eIx (zaa 4) (zaa 7)) fSub) (zaa 9) fAdd) aNil)))))) [p,w1,w2,w3,zad hs,zbP rs,w6,⇑i,⇑j,⇑s]=.nx [p,w1,w2,w3,zad hs,zbP (rs++[(i,j,hs.getD j.toNat 0 - hs.getD i.toNat 0+s)]),w6,⇑i,⇑j,⇑s]:=by
 have get:∀k:Int,0<=k/\k < hs.length->hs[k.toNat]? = some (hs.getD k.toNat 0):=fun k hk=>by
  rw[List.getD_eq_getElem?_getD,List.getElem?_eq_getElem ∅];rfl
 have ei:=get i hi;have ej:=get j hj;generalize hs.getD i.toNat 0=x at *;generalize hs.getD j.toNat 0=y at *;have gi:∀ρ:Rho,ρ[4]? = some (zad hs)->gIx ρ (.at 4 []) i=some (.own ⇑x):=fun ρ z=>zhE (by rw[List.getElem?_map,ei];rfl) hi.1 (by simpa using hi.2) z
 have gj:∀ρ:Rho,ρ[4]? = some (zad hs)->gIx ρ (.at 4 []) j=some (.own ⇑y):=fun ρ z=>zhE (by rw[List.getElem?_map,ej];rfl) hj.1 (by simpa using hj.2) z
 have hl':(rs.map fun r=>O.d (zaG r)).length < sizeLine:=zej (by simp;omega);have hm':zbP (rs++[(i,j,y - x+s)])=.l (rs.map (fun r=>.d (zaG r))++[.d (.tuple [.int i,.int j,.int (y - x+s)])]):=by
  unfold zbP zaG;simp
 rw[hm'];exact (za6 (zeK rfl rfl (zaw (zab rfl (zab rfl (zab (zal (zal (zbt rfl 09 rfl (gj _ rfl)) (zbt rfl 09 rfl (gi _ rfl)) rfl rfl rfl rfl) rfl rfl rfl rfl rfl) rfl rfl) rfl) rfl) rfl 079 rfl) rfl rfl (zcj rfl hl')))
@[simp] theorem zof (a b:Int):fEq false ⇑a ⇑b=some (.d (.bool (a==b))):=by
 exact rfl
@[simp] theorem zvu (a b:Int):fEq true ⇑a ⇑b=some (.d (.bool (!(a==b)))):=by
 exact rfl
theorem znd {p:O} {m:Int} {w1 w2 w3 w4 w6 w7 w8 w9:O} {rs:List Road} (hp:PuOk p m) (hm:m<=1125899906842624) (hl:rs.length<=1000) (hn:0 < rs.length):∃(rs':List Road) (p':O),(sIf (tst (e2 (zah 086 zak (zac (zaa 0) (zac ↥8 aNil))) ↥0 (fEq false))) (zbd (eApp (zaa 5) (eIx (zaa 5) (zah 086 zak (zac (zaa 0) (zac (eB (zac (zaa 5) aNil) (f1 fLen)) aNil)))))) sNil) [p,w1,w2,w3,w4,zbP rs,w6,w7,w8,w9]=.nx [p',w1,w2,w3,w4,zbP rs',w6,w7,w8,w9]/\rs'.length<=rs.length+1/\(∀r∈rs',r∈rs)/\PuOk p' (m+8):=by
 obtain ⟨a1,b1,c1,rfl⟩:=hp.sh;obtain ⟨d1,p1,e1,l1,u1,hp1⟩:=zct hp ∅ (n:=8) (by decide) (by decide);obtain ⟨a1,b1,c1,rfl⟩:=hp1.sh
 by_cases h:d1=0
 .subst h;obtain ⟨d2,p2,e2,l2,u2,hp2⟩:=zct hp1 ∅ (n:=rs.length) ∅ ∅;obtain ⟨a1,b1,c1,rfl⟩:=hp2.sh;have er:rs[d2.toNat]? = some (rs.getD d2.toNat (0,0,0)):=by
   rw[List.getD_eq_getElem?_getD,List.getElem?_eq_getElem ∅];rfl
  have hm:=List.mem_of_getElem? er;generalize rs.getD d2.toNat (0,0,0)=r at *;refine ⟨rs++[r],_, ?_,by simp, ?_,hp2.mono ∅⟩
  .have gi:∀ρ:Rho,ρ[5]? = some (zbP rs)->gIx ρ (.at 5 []) d2=some (.own (.d (zaG r))):=fun ρ z=>zhE (by rw[List.getElem?_map,er];rfl) l2 (by simpa using u2) z
   have hl':(rs.map fun r=>O.d (zaG r)).length < sizeLine:=zej (by simp;omega);have ln:f1 fLen [zbP rs]=some ⇑(rs.length:Int):=by simp[f1,zbP,els]
   have z0:fEq false ⇑0 ⇑0=some 037:=zof 0 0;have hm':zbP (rs++[r])=.l (rs.map (fun r=>.d (zaG r))++[.d (zaG r)]):=by
    unfold zbP;simp
   rw[hm'];exact (if_t (zaq (zal 0006 rfl rfl rfl rfl z0) rfl) (za6 (zeK rfl rfl (zbt rfl (zaC (zaI (zab rfl (zab (zgT 009 rfl ln) rfl rfl) rfl) rfl e2 rfl rfl) rfl rfl) rfl (gi _ rfl)) rfl rfl (zcj rfl hl'))))
  .intro x hx;rcases List.mem_append.mp hx with hx | hx
   .exact hx
   .obtain rfl:=List.mem_singleton.mp hx;exact hm
 .refine ⟨rs,_, ?_,by omega,fun r hr=>hr,hp1.mono ∅⟩;have z0:fEq false ⇑d1 ⇑0=some 0002:=by simp[h]
  exact (if_f (zaq (zal 0006 rfl rfl rfl rfl z0) rfl) rfl)
def netO (n:Int) (rs:List Road):O:=.t [⇑n,zbP rs]
def hgt (hs:List Int) (v:Int):Int:=hs.getD v.toNat 0
structure RdOk (n:Int) (hs:List Int) (rs:List Road):Prop where
 rd:∀r∈rs,zrY n 300000000 r
 pot:Pot rs (hgt hs)
 slk:∀r∈rs,r.2.2<=hgt hs r.2.1 - hgt hs r.1+100000000
def Slk (rs:List Road):Prop:=∃h:Int->Int,(∀v,-100000000<=h v/\h v<=100000000)/\Pot rs h/\∀r∈rs,r.2.2<=h r.2.1 - h r.1+100000000
theorem zqw {hs:List Int} (hb:∀h∈hs,-100000000<=h/\h<=100000000) (v:Int):-100000000<=hgt hs v/\hgt hs v<=100000000:=by
 unfold hgt;rw[List.getD_eq_getElem?_getD]
 cases e:hs[v.toNat]? with
 | none=>simp
 | some x=>exact hb x (List.mem_of_getElem? e)
theorem RdOk.add {n:Int} {hs:List Int} {rs rs':List Road} {i k s:Int} (hr:RdOk n hs rs) (hb:∀h∈hs,-100000000<=h/\h<=100000000) (hi:0<=i/\i < n) (hk:0<=k/\k < n) (h0:0<=s) (h1:s<=100000000) (m:∀r∈rs',r∈rs++[(i,k,hgt hs k - hgt hs i+s)]):RdOk n hs rs':=by
 have bi:=zqw hb i;have bk:=zqw hb k;refine ⟨fun r h=>?_,fun r h=>?_,fun r h=>?_⟩
 .rcases List.mem_append.mp (m r h) with h | h
  .exact hr.rd r h
  .obtain rfl:=List.mem_singleton.mp h;exact ⟨hi,hk,by dsimp only;omega,by dsimp only;omega⟩
 .rcases List.mem_append.mp (m r h) with h | h
  .exact hr.pot r h
  .obtain rfl:=List.mem_singleton.mp h;dsimp only;omega
 .rcases List.mem_append.mp (m r h) with h | h
  .exact hr.slk r h
  .obtain rfl:=List.mem_singleton.mp h;dsimp only;omega
theorem zn4 {p:O} {m c:Int} {w1 w2 w6 w7 w8 w9:O} {hs:List Int} {rs:List Road} (hp:PuOk p m) (hm:m<=1125899906842024) (c0:0 < c) (c1:c<=20) (hl:hs.length=c.toNat) (hb:∀h∈hs,-100000000<=h/\h<=100000000) (hr:RdOk c hs rs) (hn:rs.length<=900) :
  ∃(rs':List Road) (p' w7' w8' w9':O),zcn [p,w1,w2,⇑c,zad hs,zbP rs,w6,w7,w8,w9]=.nx [p',w1,w2,⇑c,zad hs,zbP rs',w6,w7',w8',w9']/\rs'.length<=rs.length+2/\RdOk c hs rs'/\PuOk p' (m+28):=by
 refine hide fun P key=>?_
 obtain ⟨x0,y0,z0,rfl⟩:=hp.sh;obtain ⟨i,p1,e1,l1,u1,hp1⟩:=zct hp ∅ (n:=c) ∅ ∅;obtain ⟨x1,y1,z1,rfl⟩:=hp1.sh;obtain ⟨j,p2,e2,l2,u2,hp2⟩:=zct hp1 ∅ (n:=c) ∅ ∅;obtain ⟨s,p3,e3,l3,u3,hp3⟩:=zlN (w1:=w1) (w2:=w2) (w3:=⇑c) (w4:=zad hs) (w5:=zbP rs) (w6:=w6) (w7:=⇑i) (w8:=⇑j) (w9:=w9) hp2 ∅;have e4:=zo2 (p:=p3) (w1:=w1) (w2:=w2) (w3:=⇑c) (w6:=w6) (hs:=hs) (rs:=rs) (i:=i) (j:=j) (s:=s) ⟨l1,by omega⟩ ⟨l2,by omega⟩ ∅;obtain ⟨rs',p5,e5,l5,m5,hp5⟩:=znd (rs:=rs++[(i,j,hs.getD j.toNat 0 - hs.getD i.toNat 0+s)]) (w1:=w1) (w2:=w2) (w3:=⇑c) (w4:=zad hs) (w6:=w6) (w7:=⇑i) (w8:=⇑j) (w9:=⇑s) hp3 ∅ (by simp;omega) (by simp);obtain ⟨x2,y2,z2,rfl⟩:=hp2.sh;refine key ⟨rs',p5,⇑i,⇑j,⇑s, ?_,by simp at l5;omega,hr.add hb ⟨l1,u1⟩ ⟨l2,u2⟩ l3 u3 m5,hp5.mono ∅⟩;unfold zcn;rw[zcY (ρ':=[.l [⇑x1,⇑y1,⇑z1],w1,w2,⇑c,zad hs,zbP rs,w6,⇑i,w8,w9]) (zap 0006 rfl rfl)];rw[zcY (ρ':=[.l [⇑x2,⇑y2,⇑z2],w1,w2,⇑c,zad hs,zbP rs,w6,⇑i,⇑j,w9]) (zap (zaI 00 rfl e2 rfl rfl) rfl rfl)];rw[zcY e3,zcY e4];exact e5
theorem zp9 {p:O} {m:Int} {most many:Int} (hp:PuOk p m) (hm:m<=562949953421312) (a0:0<=most) (a1:most<=19) (b0:0<=many) (b1:many<=30) :
  ∃(n:Int) (rs:List Road) (p':O),zck [p,⇑most,⇑many]=.ok (netO n rs) [p']/\NetB n 300000000 most.toNat (2 * many.toNat) rs/\Slk rs/\PuOk p' (m+2000):=by
 refine hide fun P key=>?_
 obtain ⟨x0,y0,z0,rfl⟩:=hp.sh;obtain ⟨c,p1,e1,l1,u1,hp1⟩:=zct hp ∅ (n:=most+1) ∅ ∅;obtain ⟨hs,p2,q,e2,hl,hb,hp2⟩:=znP (w1:=⇑most) (w2:=⇑many) (c:=c) hp1 ∅ ∅ ∅;obtain ⟨k,p3,e3,l3,u3,hp3⟩:=zct hp2 ∅ (n:=many+1) ∅ ∅;obtain ⟨x1,y1,z1,rfl⟩:=hp1.sh;obtain ⟨x2,y2,z2,rfl⟩:=hp2.sh;obtain ⟨x3,y3,z3,rfl⟩:=hp3.sh;obtain ⟨K,hK,hmul⟩:∃K:Int,(0<=K/\K<=many/\(0 < K->0 < c))/\fMul ⇑k ⇑(if 0 < c then 1 else 0)=some ⇑K:=by
  by_cases z:0 < c
  .rw[if_pos z];exact ⟨k * 1,by omega,zin ∅ ∅⟩
  .rw[if_neg z];exact ⟨k * 0,by omega,zin ∅ ∅⟩
 obtain ⟨hK0,hK1,hK2⟩:=hK;obtain ⟨ρ',e4,rs,p4,v6,v7,v8,v9,rfl,hn,hr,hp4⟩:=zbZ (G:=gtN 6) (S:=zcn) (items:=rngO 0 K.toNat) (ρ:=[.l [⇑x3,⇑y3,⇑z3],⇑most,⇑many,⇑c,zad hs,.l [],.z,.z,.z,.z])
  (fun i ρ=>∃(rs:List Road) (p4 v6 v7 v8 v9:O),ρ=[p4,⇑most,⇑many,⇑c,zad hs,zbP rs,v6,v7,v8,v9]/\rs.length<=2 * i/\RdOk c hs rs/\PuOk p4 (m+168+28 * i))
  ⟨[],_,_,_,_,_,rfl,by simp,⟨by simp,by simp[Pot],by simp⟩,hp3.mono ∅⟩
  (fun i x ρ hx hx__=>by
   obtain ⟨rs,p4,v6,v7,v8,v9,e,hn,hr,hp4⟩:=hx__;obtain ⟨hi,rfl⟩:=zda hx;subst e;obtain ⟨rs',p',v7',v8',v9',e5,hn',hr',hp'⟩:=zn4 (w1:=⇑most) (w2:=⇑many) (w6:=⇑(0+i)) (w7:=v7) (w8:=v8) (w9:=v9) hp4 ∅ (c:=c) ∅ ∅ hl hb hr ∅;exact ⟨[p4,⇑most,⇑many,⇑c,zad hs,zbP rs,⇑(0+i),v7,v8,v9],_,by simp,e5,rs',p',_,v7',v8',v9',rfl,by omega,hr',hp'.mono ∅⟩)
 rw[zcN] at hn hp4;refine key ⟨c,rs,p4, ?_,⟨l1,by omega,by omega,hr.rd⟩,⟨hgt hs,zqw hb,hr.pot,hr.slk⟩,hp4.mono ∅⟩;unfold zck zeL;have hk:okR K=true:=zeq ∅ ∅;obtain ⟨x4,y4,z4,rfl⟩:=hp4.sh;unfold netO zbP zad at *;simp (disch:=omega) [e1,e2,e3,-zo5,hmul,zi6 hk,e4,zbW];rfl
theorem Slk.taut {rs:List Road}:Slk rs->Taut rs:=fun ⟨_,_,P,_⟩=>P.taut
structure Net (n:Int) (rs:List Road):Prop where
 ok:zay n rs
 pos:0 < n
 taut:Taut rs
@[simp] theorem zuO (ds:List PyData):zjl (.d (.list ds))=some (.l (ds.map O.d)):=by
 unfold zjl;rw[show els (.d 050)=some (_,ds.map O.d) from rfl];dsimp only;rw[zd9]
@[simp] theorem zub (ds:List PyData):zjl (.l (ds.map O.d))=some (.l (ds.map O.d)):=by
 unfold zjl;rw[show els (.l (ds.map O.d))=some (_,ds.map O.d) from rfl];dsimp only;rw[zd9]
theorem zgA (n k:Int):zby [⇑n,⇑k]=.ok (.d (.bool (decide (0<=k/\k < n)))) []:=by
 unfold zby zec
 by_cases h:0<=k<;>simp (disch:=omega) [h]
theorem zkT {n:Int} {r:Road} (ok:zoN n r):zcO [⇑n,.d (zaG r)]=.ok 037 []:=by
 obtain ⟨⟨h1,h2⟩,⟨h3,h4⟩,h5,h6⟩:=ok;unfold zcO zeJ zaG;simp (disch:=omega) [zgA,h1,h2,h3,h4,h5,h6]
@[simp] theorem zvL (b:Bool):trV (.d (.bool b))=some b:=rfl
theorem zcT:∀{ds:List PyData} {k:Nat} {i:Nat} {x:O},(zcy k ds)[i]? = some x->∃d,ds[i]? = some d/\x=.d (.tuple [.int ((k+i:Nat):Int),d])
 | [],_,_,_,h=>by simp[zcy] at h
 | d::ds,k,0,x,h=>by
  simp[zcy] at h;exact ⟨d,rfl,by rw[<-h];simp⟩
 | d::ds,k,i+1,x,h=>by
  rw[zcy,List.getElem?_cons_succ] at h;obtain ⟨y,hy,e⟩:=zcT h;exact ⟨y,by simpa using hy,by rw[e,Nat.add_right_comm];rfl⟩
theorem zed {n:Int} {rs:List Road} (ok:zay n rs):zbq [.d 02]=.ok 042 []:=by
 have h0:=ok.n0;have h1:=ok.n1;have h2:¬(60:Int) < rs.length:=by have:=ok.len;omega
 obtain ⟨ρ',e,z3,z4,rfl⟩:=zbZ (G:=gtT (zaf (gtN 3) (zaf (gtN 4) zaV))) (S:=zcD) (items:=zcy 0 (rs.map zaG)) (ρ:=[.d 02,⇑n,.d (zar rs),.z,.z])
  (fun i ρ=>∃z3 z4:O,ρ=[.d 02,⇑n,.d (zar rs),z3,z4]) ⟨_,_,rfl⟩
  (fun i x ρ hx hx__=>by
   obtain ⟨z3,z4,e⟩:=hx__;subst e;obtain ⟨d,hd,rfl⟩:=zcT hx;rw[List.getElem?_map] at hd;obtain ⟨r,hr,rfl⟩:=Option.map_eq_some_iff.mp hd;have hr:=zkT (ok.rd r (List.mem_of_getElem? hr));refine ⟨_,_,by exact rfl, ?_,⇑i,.d (zaG r),rfl⟩;unfold zcD;simp (disch:=omega) [hr])
 unfold zbq zd7;unfold netD zar at *;simp (disch:=omega) [h0,h1,h2,e]
theorem zdA {n k:Int} {rs:List Road} (h0:0<=k) (h1:k < n):za7 [.d 02,⇑k]=.ok 042 []:=by
 unfold za7 zdx netD;simp (disch:=omega) [zgA,h0,h1,ixN]
theorem za2 {n k l:Int} {rs:List Road} (ok:zay n rs) (h0:0<=k/\k < n) (h1:0<=l/\l < n):zat [.d 02,⇑k,⇑l]=.ok 042 []:=by
 unfold zat zcS;simp (disch:=omega) [zed ok,zdA h0.1 h0.2,zdA h1.1 h1.2]
def cO:Option Int->O
 | none=>.d .none
 | some x=>⇑x
def rowO (r:List 08):O:=.l (r.map cO)
def tabO (t:Tab):O:=.l (t.map rowO)
theorem zd5 {n:Nat} {i:Int} (h:0<=i/\i < n):ixN n i=some i.toNat:=by unfold ixN;rw[if_pos h.1,if_pos h.2]
theorem zje {ρ:Rho} {k a b:Nat} {t:Tab} {n:Nat} {i j:Int} (sh:Shape n t) (hk:ρ[k]? = some (tabO t)) (ha:ρ[a]? = some ⇑i) (hb:ρ[b]? = some ⇑j) (hi:0<=i/\i < n) (hj:0<=j/\j < n) :
  eIx (eIx (zaa k) (zaa a)) (zaa b) ρ=.ok (.own (cO (cell t i.toNat j.toNat))) ρ true:=by
 obtain ⟨r,e1,e2,hm⟩:=sh.at (i:=i.toNat) (j:=j.toNat) ∅ ∅;have l1:=sh.len;have l2:=sh.row r hm;have f1:gIx ρ (.at k []) i=some (.at k [i.toNat]):=by
  rw[zdE,hk];unfold tabO;simp[els,zd5 (n:=t.length) (i:=i) ∅,e1,rowO,ze0]
 have vv:vw ρ (.at k [i.toNat])=some (rowO r):=by
  unfold vw;dsimp only;rw[hk];simp[tabO,sub,e1]
 have f2:gIx ρ (.at k [i.toNat]) j=some (.own (cO (cell t i.toNat j.toNat))):=by
  unfold gIx
  have:vn ρ (.at k [i.toNat])=some (rowO r):=by
   unfold vn;rw[vv];rfl
  rw[this];simp[rowO,els,zd5 (n:=r.length) (i:=j) ∅,e2]
  cases cell t i.toNat j.toNat<;>rfl
 have f3:pok ρ true (.at k [i.toNat])=true:=by simp[pok,vv]
 simp[hk,ha,hb,f1,f2,f3,tabO,-zdE]
theorem zrV {T:TF} {S U:SF} {ρ ρ':Rho} {q:Bool} (h:T ρ=.ok true ρ' q):sIf T S U ρ=S ρ':=by simp[h]
section
variable {w0 w1 w2 z4 z5 z6 z7 z8 z9:O} {t:Tab} {n:Nat}
end
theorem zgQ {α β:Type} (f:β->α->β) (b:β) {l:List α} {i:Nat} {x:α} (h:l[i]? = some x):(l.take (i+1)).foldl f b=f ((l.take i).foldl f b) x:=by
 rw[List.take_succ,h,List.foldl_append];rfl
section
variable {w0 w1 w2 z4 z5 z6 z7 z8 z9:O} {n:Nat}
end
theorem zdn (l:List O):l.filter (fun _=>true)=l:=List.filter_eq_self.mpr (by simp)
def fnO (f:Int->O) (n:Nat):O:=.l ((List.range n).map fun v:Nat=>f v)
def hO (h:Int->Int) (v:Int):O:=⇑(h v)
def eO (e:Int->Option Int) (v:Int):O:=cO (e v)
theorem cO_d (o:Option Int):∃x,cO o=.d x:=by cases o<;>exact ⟨_,rfl⟩
theorem zrF (h:Int->Int) (v x:Int):up1 (hO h) v ⇑x=hO (up1 h v x):=by
 funext y;by_cases z:y=v<;>simp[up1,hO,z]
theorem zuF (e:Int->Option Int) (v:Int) (x:Option Int):up1 (eO e) v (cO x)=eO (up1 e v x):=by
 funext y;by_cases z:y=v<;>simp[up1,eO,z]
theorem zpG {ρ:Rho} {k a:Nat} {f:Int->O} {n:Nat} {i:Int} {x:PyData} (hk:ρ[k]? = some (fnO f n)) (ha:ρ[a]? = some ⇑i) (hi:0<=i/\i < n) (hf:f i=.d x) :
  eIx (zaa k) (zaa a) ρ=.ok (.own (.d x)) ρ true:=by
 have f1:gIx ρ (.at k []) i=some (.own (.d x)):=by
  rw[zdE,hk];unfold fnO
  have:((i.toNat:Nat):Int)=i:=by omega
  have hl:i.toNat < n:=by omega
  simp[els,zd5 (n:=n) (i:=i) hi,hl,this,hf,ze0]
 simp[hk,ha,f1,fnO,-zdE]
theorem zpL {ρ:Rho} {k b:Nat} {f:Int->O} {n:Nat} {i:Int} {A:EF} {o:O} {r0:Rv} {q:Bool} (hA:A ρ=.ok r0 ρ q) (hc:coe ρ r0=some (o,ρ)) (hk:ρ[k]? = some (fnO f n)) (hb:ρ[b]? = some ⇑i) (hi:0<=i/\i < n) :
  sSub coe A (zaa k) (zaa b) ρ=.nx (ρ.set k (fnO (up1 f i o) n)):=by
 have f4:L2.zeI ρ (.at k []) (fun os=>(ixN os.length i).map fun z=>os.set z o)=some (ρ.set k (fnO (up1 f i o) n)):=by
  rw[zi3,hk];unfold fnO;simp only[List.length_map,List.length_range,zd5 hi,Option.map_some]
  congr 3
  apply List.ext_getElem?;intro j
  by_cases e:i.toNat=j
  .subst e
   have:((i.toNat:Nat):Int)=i:=by omega
   have hl:i.toNat < n:=by omega
   simp[hl,this,up1]
  .rw[List.getElem?_set_ne e];rw[List.getElem?_map,List.getElem?_map]
   by_cases hj:j < n
   .simp[hj,up1];intro z;omega
   .simp[hj]
 simp[hA,hc,hk,hb,f4,fnO,-zi3]
theorem zmT {w0 z3 z4:O} {n:Nat} {h:Int->Int} {e:Int->Option Int} {l:Option Int} {k:Int} {r:Road} (h1:0<=r.1/\r.1 < n) (h2:0<=r.2.1/\r.2.1 < n) :
  zbJ [w0,fnO (hO h) n,fnO (eO e) n,cO l,⇑k,⇑r.1,⇑r.2.1,⇑r.2.2]=if h r.1+r.2.2 < h r.2.1 then .nx [w0,fnO (hO (up1 h r.2.1 (h r.1+r.2.2))) n,fnO (eO (up1 e r.2.1 (some k))) n,cO (some r.2.1),⇑k,⇑r.1,⇑r.2.1,⇑r.2.2] else .nx [w0,fnO (hO h) n,fnO (eO e) n,cO l,⇑k,⇑r.1,⇑r.2.1,⇑r.2.2]:=by
 have r1:=zpG (ρ:=[w0,fnO (hO h) n,fnO (eO e) n,cO l,⇑k,⇑r.1,⇑r.2.1,⇑r.2.2]) (k:=1) (a:=5) (f:=hO h) (n:=n) (i:=r.1) rfl rfl h1 rfl;have r2:=zpG (ρ:=[w0,fnO (hO h) n,fnO (eO e) n,cO l,⇑k,⇑r.1,⇑r.2.1,⇑r.2.2]) (k:=1) (a:=6) (f:=hO h) (n:=n) (i:=r.2.1) rfl rfl h2 rfl;unfold zbJ
 by_cases c:h r.1+r.2.2 < h r.2.1
 .rw[if_pos c,zrV (q:=true) (ρ':=[w0,fnO (hO h) n,fnO (eO e) n,cO l,⇑k,⇑r.1,⇑r.2.1,⇑r.2.2]) (by simp[r1,r2,-zcJ,c])];have w1:=zpL (ρ:=[w0,fnO (hO h) n,fnO (eO e) n,cO l,⇑k,⇑r.1,⇑r.2.1,⇑r.2.2]) (k:=1) (b:=6) (f:=hO h) (n:=n) (i:=r.2.1) (A:=e2 (eIx (zaa 1) (zaa 5)) (zaa 7) fAdd) (o:=⇑(h r.1+r.2.2)) (r0:=.own ⇑(h r.1+r.2.2)) (q:=true) (by simp[r1,-zcJ]) rfl rfl rfl h2;rw[zrF] at w1;rw[zcY w1];have w2:=zpL (ρ:=[w0,fnO (hO (up1 h r.2.1 (h r.1+r.2.2))) n,fnO (eO e) n,cO l,⇑k,⇑r.1,⇑r.2.1,⇑r.2.2]) (k:=2) (b:=6) (f:=eO e) (n:=n) (i:=r.2.1) (A:=zaa 4) (o:=cO (some k)) (r0:=.at 4 []) (q:=true) rfl rfl rfl rfl h2;rw[zuF] at w2;have w2':sSub coe (zaa 4) (zaa 2) (zaa 6) ([w0,fnO (hO h) n,fnO (eO e) n,cO l,⇑k,⇑r.1,⇑r.2.1,⇑r.2.2].set 1 (fnO (hO (up1 h r.2.1 (h r.1+r.2.2))) n))=_:=w2;rw[zcY w2'];exact (zap rfl rfl rfl)
 .rw[if_neg c];simp[r1,r2,-zcJ,c]
theorem zcR:∀(ds:List PyData) (k:Nat),(zcy k ds).length=ds.length
 | [],_=>rfl
 | d::ds,k=>by rw[zcy,List.length_cons,zcR ds,List.length_cons]
theorem zhv {n:Int} {rs:List Road} (ok:zay n rs) (b:Bf) :
  zb5 [.d (zar rs),fnO (hO b.h) n.toNat,fnO (eO b.e) n.toNat]=.ok (cO (zbm rs b).l) [fnO (hO (zbm rs b).h) n.toNat,fnO (eO (zbm rs b).e) n.toNat]:=by
 have n0:=ok.n0;obtain ⟨ρ',e,z4,z5,z6,z7,rfl⟩:=zbZ (G:=gtT 031) (S:=zbJ) (items:=zcy 0 (rs.map zaG)) (ρ:=[.d (zar rs),fnO (hO b.h) n.toNat,fnO (eO b.e) n.toNat,.d .none,.z,.z,.z,.z])
  (fun i ρ=>∃z4 z5 z6 z7,ρ=[.d (zar rs),fnO (hO (bfTo rs b i).h) n.toNat,fnO (eO (bfTo rs b i).e) n.toNat,cO (bfTo rs b i).l,z4,z5,z6,z7]) ⟨_,_,_,_,rfl⟩
  (fun i x ρ hx hx__=>by
   obtain ⟨z4,z5,z6,z7,e⟩:=hx__;subst e;obtain ⟨d,hd,rfl⟩:=zcT hx;rw[List.getElem?_map] at hd;obtain ⟨r,hr,rfl⟩:=Option.map_eq_some_iff.mp hd;obtain ⟨⟨a1,a2⟩,⟨b1,b2⟩,_⟩:=ok.rd r (List.mem_of_getElem? hr);have st:=zmT (w0:=.d (zar rs)) (z3:=.z) (z4:=.z) (n:=n.toNat) (h:=(bfTo rs b i).h) (e:=(bfTo rs b i).e) (l:=(bfTo rs b i).l) (k:=i) (r:=r) ∅ ∅;have eb:bfTo rs b (i+1)=zif rs (bfTo rs b i) i:=zd0 _ _ _;rw[eb];unfold zif;rw[hr];dsimp only;refine ⟨[.d (zar rs),fnO (hO (bfTo rs b i).h) n.toNat,fnO (eO (bfTo rs b i).e) n.toNat,cO (bfTo rs b i).l,⇑i,⇑r.1,⇑r.2.1,⇑r.2.2], ?_⟩;rw[st];split
   .exact ⟨_,by simp[zaG],rfl,_,_,_,_,rfl⟩
   .exact ⟨_,by simp[zaG],rfl,_,_,_,_,rfl⟩)
 rw[zcR,List.length_map] at e;obtain ⟨x,hx⟩:=cO_d (zbm rs b).l;rw[show bfTo rs b rs.length=zbm rs b from rfl,hx] at e;rw[hx];unfold zb5 zdP;unfold zar fnO at *;simp[e]
theorem zjH (x:PyData):∀k:Nat,(List.map O.d (List.replicate k [x]).flatten)=List.replicate k (O.d x)
 | 0=>rfl
 | k+1=>by rw[List.replicate_succ,List.flatten_cons,List.map_append,zjH x k];rfl
theorem zff {x:PyData} {c:Int} (c0:0<=c) (c1:c<=1000):fMul (.l [.d x]) ⇑c=some (.l (List.replicate c.toNat (.d x))):=by
 have z:(1:Nat) * c.toNat<=sizeLine:=zbW ∅;unfold fMul;dsimp only[els,lds,Option.map];rw[if_pos ⟨by omega,by omega,z⟩,zjH]
theorem zft {n:Int} {rs:List Road} (ok:zay n rs) {w0 w1 w2:O}:∀(items:List O) (b:Bf) (z6 z7:O),(items.length=0->z6=cO b.l)->
  ∃z7',forF (gtN 7) zcL items [w0,w1,w2,.d (zar rs),fnO (hO b.h) n.toNat,fnO (eO b.e) n.toNat,z6,z7]=.nx [w0,w1,w2,.d (zar rs),fnO (hO (zcU rs items.length b).h) n.toNat,fnO (eO (zcU rs items.length b).e) n.toNat,cO (zcU rs items.length b).l,z7']
 | [],b,z6,z7,h=>⟨z7,by rw[h rfl];rfl⟩
 | x::xs,b,z6,z7,_=>by
  have on:=zhv ok b;have st:zcL [w0,w1,w2,.d (zar rs),fnO (hO b.h) n.toNat,fnO (eO b.e) n.toNat,z6,x]=if (zbm rs b).l=none then .br [w0,w1,w2,.d (zar rs),fnO (hO (zbm rs b).h) n.toNat,fnO (eO (zbm rs b).e) n.toNat,cO (zbm rs b).l,x] else .nx [w0,w1,w2,.d (zar rs),fnO (hO (zbm rs b).h) n.toNat,fnO (eO (zbm rs b).e) n.toNat,cO (zbm rs b).l,x]:=by
   unfold zcL
   cases e:(zbm rs b).l with
   | none=>
    rw[e] at on;unfold fnO zar cO at *;exact (zag (zap (zaI 008 rfl on rfl rfl) rfl rfl) (if_t 0019 rfl))
   | some v=>
    rw[e] at on;unfold fnO zar cO at *;exact (zag (zap (zaI 008 rfl on rfl rfl) rfl rfl) (if_f 0019 rfl))
  have g:gtN 7 x [w0,w1,w2,.d (zar rs),fnO (hO b.h) n.toNat,fnO (eO b.e) n.toNat,z6,z7]=some [w0,w1,w2,.d (zar rs),fnO (hO b.h) n.toNat,fnO (eO b.e) n.toNat,z6,x]:=by simp
  by_cases e:(zbm rs b).l=none
  .rw[if_pos e] at st;refine ⟨x, ?_⟩;rw[forF,g];dsimp only;rw[st];dsimp only;rw[List.length_cons,zcU,if_pos e]
  .rw[if_neg e] at st;obtain ⟨z7',ih⟩:=zft ok xs (zbm rs b) (cO (zbm rs b).l) x fun _=>rfl
   refine ⟨z7', ?_⟩;rw[forF,g];dsimp only;rw[st];dsimp only;rw[List.length_cons,zcU,if_neg e];exact ih
def hsD (n:Nat) (s:Int->Int):PyData:=.list ((List.range n).map fun v:Nat=>.int (s v))
theorem zod {n:Int} {rs:List Road} (ok:zay n rs) (s:Int->Int) :
  zb4 [.d 02,.d (hsD n.toNat s)]=.ok (.t [fnO (hO (zaz n.toNat rs s).h) n.toNat,fnO (eO (zaz n.toNat rs s).e) n.toNat,cO (zaz n.toNat rs s).l]) []:=by
 have n0:=ok.n0;have n1:=ok.n1;have hr:okR n=true:=zeq ∅ ∅;obtain ⟨z7,e⟩:=zft ok (w0:=.d 02) (w1:=.d (hsD n.toNat s)) (w2:=⇑n) (rngO 0 n.toNat) ⟨s,fun _=>none,none⟩ 042 .z (fun _=>rfl);rw[zcN,show zcU rs n.toNat ⟨s,fun _=>none,none⟩=zaz n.toNat rs s from rfl] at e;have b1:fnO (hO s) n.toNat=.l (((List.range n.toNat).map fun v:Nat=>PyData.int (s v)).map O.d):=by
  unfold fnO;rw[List.map_map];rfl
 have b2:fnO (eO fun _=>none) n.toNat=.l (List.replicate n.toNat 042):=by
  unfold fnO eO cO;rw[List.map_const'];simp
 dsimp only at e;rw[b1,b2] at e;obtain ⟨x,hx⟩:=cO_d (zaz n.toNat rs s).l;rw[hx] at e ⊢;unfold zb4 zeo;unfold fnO netD zar hsD at *;simp (disch:=omega) [e,zi6 hr,zff,zbW,-List.map_map];rfl
@[simp] theorem zvn (k:Nat) (x:PyData):fz (.l (List.replicate k (.d x)))=some (.list (List.replicate k x)):=by
 have:=zhR (List.replicate k x)
 rwa [List.map_replicate] at this
theorem zh9 (n:Nat) (a:Int):fnO (hO fun _=>a) n=.l (List.replicate n ⇑a):=by
 unfold fnO hO;rw[List.map_const'];simp
theorem zuK (n:Nat) (h:Int->Int):fz (fnO (hO h) n)=some (hsD n h):=by
 unfold fnO hO hsD
 have:=zhR ((List.range n).map fun v:Nat=>PyData.int (h v))
 rw[List.map_map] at this;exact this
theorem zmb {n:Int} {rs:List Road} (ok:zay n rs) (s:Int->Int) :
  zb4 [.d 02,fnO (hO s) n.toNat]=.ok (.t [fnO (hO (zaz n.toNat rs s).h) n.toNat,fnO (eO (zaz n.toNat rs s).e) n.toNat,cO (zaz n.toNat rs s).l]) []:=by
 have n0:=ok.n0;have n1:=ok.n1;have hr:okR n=true:=zeq ∅ ∅;obtain ⟨z7,e⟩:=zft ok (w0:=.d 02) (w1:=.l (((List.range n.toNat).map fun v:Nat=>PyData.int (s v)).map O.d)) (w2:=⇑n) (rngO 0 n.toNat) ⟨s,fun _=>none,none⟩ 042 .z (fun _=>rfl);rw[zcN,show zcU rs n.toNat ⟨s,fun _=>none,none⟩=zaz n.toNat rs s from rfl] at e;have b1:fnO (hO s) n.toNat=.l (((List.range n.toNat).map fun v:Nat=>PyData.int (s v)).map O.d):=by
  unfold fnO;rw[List.map_map];rfl
 have b2:fnO (eO fun _=>none) n.toNat=.l (List.replicate n.toNat 042):=by
  unfold fnO eO cO;rw[List.map_const'];simp
 dsimp only at e;rw[b1,b2] at e;rw[b1];obtain ⟨x,hx⟩:=cO_d (zaz n.toNat rs s).l;rw[hx] at e ⊢;unfold zb4 zeo;unfold fnO netD zar at *;simp (disch:=omega) [e,zi6 hr,zff,zbW,-List.map_map];rfl
theorem zcH {n:Int} {rs:List Road} (N:zay n rs) (T:Taut rs):zaT [.d 02]=.ok 042 []:=by
 have n0:=N.n0;have n1:=N.n1;have lo:=zmb N (fun _=>0);rw[(zdc N T _).1,zh9] at lo;unfold zaT zdO;unfold fnO netD cO at *;exact (zoR rfl (zag (zap (zaI (zab rfl (zab (zal (zaw 009 rfl 079 rfl) 038 rfl rfl rfl (zff n0 ∅)) rfl rfl) rfl) rfl lo rfl rfl) rfl rfl) (if_f 0019 rfl)) rfl)
theorem zfe {n one:Int} {rs:List Road} (N:zay n rs) (h1:0<=one/\one < n) :
  zbw [.d 02,⇑one]=.ok (.t [fnO (hO (zaz n.toNat rs 003).h) n.toNat,fnO (eO (zaz n.toNat rs 003).e) n.toNat]) []:=by
 have n0:=N.n0;have n1:=N.n1;have lo:=zod N 003;obtain ⟨x,hx⟩:=cO_d (zaz n.toNat rs 003).l;rw[hx] at lo;unfold zbw zdK;have b1:(sAsg coe (e2 (zaA coes .l (zac ↥(40000000000) aNil)) 069 fMul) (gtN 2)) [.d 02,⇑one,.z,.z,.z,.z]=.nx [.d 02,⇑one,fnO (hO fun _=>40000000000) n.toNat,.z,.z,.z]:=by
  rw[zh9];unfold netD;exact (zap (zal (zaw 009 rfl 079 rfl) 038 rfl rfl rfl (zff n0 ∅)) rfl rfl)
 have b2:=zpL (ρ:=[.d 02,⇑one,fnO (hO fun _=>40000000000) n.toNat,.z,.z,.z]) (k:=2) (b:=1) (i:=one) (A:=↥0) (o:=⇑0) (r0:=.own ⇑0) (q:=true) rfl rfl rfl rfl ∅;rw[zrF] at b2;have b2':sSub coe ↥0 (zaa 2) (zaa 1) [.d 02,⇑one,fnO (hO fun _=>40000000000) n.toNat,.z,.z,.z]=.nx [.d 02,⇑one,fnO (hO 003) n.toNat,.z,.z,.z]:=b2;simp only[znx,List.length_cons,List.length_nil,List.cons_append,List.nil_append,List.replicate];rw[zcY b1,zcY b2'];have fz':=zuK n.toNat 003;generalize hsD n.toNat 003=W at *;generalize (zaz n.toNat rs 003)=b at *;unfold fnO at *;simp (disch:=omega) [lo,zbW,fz'];rfl
theorem zbK (R:List Int):fz (zad R)=some (.list (R.map .int)):=by
 unfold zad
 have:=zhR (R.map PyData.int)
 rw[List.map_map] at this;exact this
theorem zdX (R:List Int):SeqAt.shaped (.list (R.map PyData.int))=true:=by
 have h:∀R:List Int,PyData.canLayAll0 (R.map PyData.int)=true/\PyData.depthAll (R.map PyData.int)<=1:=by
  intro R
  induction R with
  | nil=>simp[PyData.canLayAll0,PyData.depthAll]
  | cons x xs ih=>simp[PyData.canLayAll0,PyData.depthAll,PyData.canLay0,PyData.depth,ih]
 simp[SeqAt.shaped,PyData.canLay0,PyData.depth,(h R).1]
 have:=(h R).2
 omega
theorem zpf (R:List Int) (v:Int):((R.map PyData.int).any fun y=>PyData.eqv y (.int v))=decide (v∈R):=by
 induction R with
 | nil=>simp
 | cons x xs ih=>
  rw[List.map_cons,List.any_cons,ih]
  by_cases h:x=v
  .subst h;simp[PyData.eqv]
  .have h':¬v=x:=fun z=>h z.symm
   simp[PyData.eqv,h,h']
theorem zhB (b:Bool) (R:List Int) (v:Int):fIn b ⇑v (zad R)=some (.d (.bool (if b then !decide (v∈R) else decide (v∈R)))):=by
 unfold fIn;rw[zbK,fz_d];dsimp only;rw[zdX,zpf];exact rfl
def zci (p:Int) (R:List Int) (r:Road):List Int:=if r.1=p/\r.2.1∉R then R++[r.2.1] else R
theorem zg5 (p:Int) (R:List Int) (r:Road):∃X,zci p R r=R++X:=by
 unfold zci;split
 .exact ⟨_,rfl⟩
 .exact ⟨[],by simp⟩
structure Rc1 (n:Int) (rs:List Road) (one:Int) (R:List Int):Prop where
 nd:R.Nodup
 rg:∀v∈R,0<=v/\v < n
 wk:∀v∈R,∃L,Wk rs one v L
theorem Rc1.len {n one:Int} {rs:List Road} {R:List Int} (h:Rc1 n rs one R):R.length<=n.toNat:=
 ziH h.nd fun x hx=>by have:=h.rg x hx;omega
theorem Rc1.step {n one p:Int} {rs:List Road} {R:List Int} (ok:zay n rs) (h:Rc1 n rs one R) (hp:p∈R) {r:Road} (hr:r∈rs):Rc1 n rs one (zci p R r):=by
 unfold zci;split
 .rename_i c;refine ⟨?_,fun v hv=>?_,fun v hv=>?_⟩
  .rw[List.nodup_append];exact ⟨h.nd,by simp,fun a ha b hb=>by
    obtain rfl:=List.mem_singleton.mp hb;intro e;exact c.2 (e ▸ ha)⟩
  .rcases List.mem_append.mp hv with hv | hv
   .exact h.rg v hv
   .obtain rfl:=List.mem_singleton.mp hv;exact (ok.rd r hr).2.1
  .rcases List.mem_append.mp hv with hv | hv
   .exact h.wk v hv
   .obtain rfl:=List.mem_singleton.mp hv;obtain ⟨L,w⟩:=h.wk p hp;have w2:Wk rs r.1 r.2.1 (r.2.2+0):=.cons hr (.nil _);rw[c.1] at w2;exact ⟨_,w.trans w2⟩
 .exact h
theorem zkB {w0 w1 z6:O} {R:List Int} {a p:Int} {r:Road} (ha:0<=a/\a < R.length) (hp:R[a.toNat]? = some p) (hl:R.length<=1000) :
  zbg [w0,w1,zad R,⇑a,⇑r.1,⇑r.2.1,z6]=.nx [w0,w1,zad (zci p R r),⇑a,⇑r.1,⇑r.2.1,z6]:=by
 have rd:eIx (zaa 2) (zaa 3) [w0,w1,zad R,⇑a,⇑r.1,⇑r.2.1,z6]=.ok (.own ⇑p) [w0,w1,zad R,⇑a,⇑r.1,⇑r.2.1,z6] true:=by
  unfold zad;simp (disch:=omega) [ixN,ha.1,ha.2,hp,-getElem?_pos]
 have fi:=zhB true R r.2.1;unfold zbg zci
 by_cases c1:r.1=p
 .have c1':(r.1==p)=true:=by simp[c1]
  by_cases c2:r.2.1∈R
  .rw[if_neg (by simp[c2])];unfold zad at *;simp (disch:=omega) [rd,-zcJ,c1',fi,c2,-beq_iff_eq]
  .rw[if_pos ⟨c1,c2⟩];unfold zad at *;simp (disch:=omega) [rd,-zcJ,c1',fi,c2,zej,-beq_iff_eq]
 .rw[if_neg (by simp[c1])];unfold zad at *;simp (disch:=omega) [rd,-zcJ,c1]
theorem zj0 (p:Int):∀(rs:List Road) (R:List Int),∃X,rs.foldl (zci p) R=R++X
 | [],R=>⟨[],by simp⟩
 | r::rs,R=>by
  obtain ⟨X,hX⟩:=zg5 p R r;obtain ⟨Y,hY⟩:=zj0 p rs (zci p R r);exact ⟨X++Y,by rw[List.foldl_cons,hY,hX,List.append_assoc]⟩
theorem zmj {n one p:Int} {rs:List Road} (ok:zay n rs):∀(l:List Road) (R:List Int),(∀r∈l,r∈rs)->Rc1 n rs one R->p∈R->Rc1 n rs one (l.foldl (zci p) R)
 | [],R,_,h,_=>h
 | r::l,R,hl,h,hp=>by
  rw[List.foldl_cons];refine zmj ok l _ (fun x hx=>hl x (List.mem_cons_of_mem _ hx)) (h.step ok hp (hl r List.mem_cons_self)) ?_;obtain ⟨X,hX⟩:=zg5 p R r;rw[hX];exact List.mem_append_left _ hp
theorem zoF {p:Int}:∀(l:List Road) (R:List Int),∀r∈l,r.1=p->r.2.1∈l.foldl (zci p) R
 | r::l,R,x,hx,e=>by
  rw[List.foldl_cons];rcases List.mem_cons.mp hx with rfl | hx
  .obtain ⟨Y,hY⟩:=zj0 p l (zci p R x);rw[hY];refine List.mem_append_left _ ?_;unfold zci
   by_cases c:x.2.1∈R
   .rw[if_neg (by simp[c])];exact c
   .rw[if_pos ⟨e,c⟩];simp
  .exact zoF l _ x hx e
theorem zjn {n one:Int} {rs:List Road} (ok:zay n rs) {w1 z4 z5 z6:O} {R:List Int} {a p:Int} (h:Rc1 n rs one R) (ha:0<=a/\a < R.length) (hp:R[a.toNat]? = some p) :
  ∃z4' z5' z6',zbh [.d 02,w1,zad R,⇑a,z4,z5,z6]=.nx [.d 02,w1,zad (rs.foldl (zci p) R),⇑(a+1),z4',z5',z6']:=by
 have hpm:=List.mem_of_getElem? hp;have n1:=ok.n1;obtain ⟨ρ',e,z4',z5',z6',rfl⟩:=zbZ (G:=gtT (zaf (gtN 4) (zaf (gtN 5) (zaf (gtN 6) zaV)))) (S:=zbg) (items:=(rs.map zaG).map O.d) (ρ:=[.d 02,w1,zad R,⇑a,z4,z5,z6])
  (fun i ρ=>∃z4' z5' z6',ρ=[.d 02,w1,zad ((rs.take i).foldl (zci p) R),⇑a,z4',z5',z6']) ⟨_,_,_,rfl⟩
  (fun i x ρ hx hx__=>by
   obtain ⟨z4',z5',z6',e⟩:=hx__;subst e;rw[List.map_map,List.getElem?_map] at hx;obtain ⟨r,hr,rfl⟩:=Option.map_eq_some_iff.mp hx;obtain ⟨X,hX⟩:=zj0 p (rs.take i) R;have hI:=zmj (p:=p) ok (rs.take i) R (fun r hr=>List.mem_of_mem_take hr) h hpm;have hl:=hI.len;have hp':((rs.take i).foldl (zci p) R)[a.toNat]? = some p:=by
    rw[hX,List.getElem?_append_left ∅];exact hp
   have ll:R.length<=((rs.take i).foldl (zci p) R).length:=by rw[hX];simp
   have st:=zkB (w0:=.d 02) (w1:=w1) (z6:=⇑r.2.2) (a:=a) (p:=p) (r:=r) (R:=(rs.take i).foldl (zci p) R) ∅ hp' ∅;refine ⟨_,_,by simp[zaG],st,⇑r.1,⇑r.2.1,⇑r.2.2, ?_⟩;rw[zgQ (zci p) _ hr])
 rw[List.length_map,List.length_map,List.take_length,List.map_map] at e;refine ⟨z4',z5',z6', ?_⟩;unfold zbh;unfold netD zar zad at *;simp[e,ixN];rfl
def Clo (rs:List Road) (R:List Int) (a:Nat):Prop:=∀i p,i < a->R[i]? = some p->∀r∈rs,r.1=p->r.2.1∈R
theorem zkF {n:Int} {rs:List Road} {w1 z4 z5 z6:O} (R:List Int) (a:Nat):zbe [.d 02,w1,zad R,⇑a,z4,z5,z6]=.ok (decide (a < R.length)) [.d 02,w1,zad R,⇑a,z4,z5,z6] true:=by
 unfold zbe zad;simp
structure zpD (n:Int) (rs:List Road) (one:Int) (T:TF) (S:SF) (l:Nat):Prop where
 tst:∀(w1:O) (R:List Int) (a:Nat) (zs:List O),zs.length=l->T (.d 02::w1::zad R::⇑a::zs)=.ok (decide (a < R.length)) (.d 02::w1::zad R::⇑a::zs) true
 rnd:∀(w1:O) (R:List Int) (a p:Int) (zs:List O),zs.length=l->Rc1 n rs one R->(0<=a/\a < R.length)->R[a.toNat]? = some p->∃zs',zs'.length=l/\S (.d 02::w1::zad R::⇑a::zs)=.nx (.d 02::w1::zad (rs.foldl (zci p) R)::⇑(a+1)::zs')
theorem zjr {n one:Int} {rs:List Road} (ok:zay n rs) {T:TF} {S:SF} {l:Nat} (lp:zpD n rs one T S l) {w1:O} (k:Nat):∀(R:List Int) (a:Nat) (zs:List O),zs.length=l->n.toNat<=k+a->a<=R.length->Rc1 n rs one R->Clo rs R a->
  ∃(R':List Int) (z:O) (zs':List O),zbA T S (k+1) (.d 02::w1::zad R::⇑a::zs)=.nx (.d 02::w1::zad R'::z::zs')/\zs'.length=l/\Rc1 n rs one R'/\Clo rs R' R'.length/\∃X,R'=R++X:=by
 induction k with
 | zero=>
  intro R a zs hz hk ha h hc;have hl:=h.len;have c:¬a < R.length:=by omega
  refine ⟨R,⇑a,zs, ?_,hz,h, ?_,[],by simp⟩
  .rw[zbA,lp.tst w1 R a zs hz,decide_eq_false c]
  .have:R.length=a:=by omega
   rw[this];exact hc
 | succ k ih=>
  intro R a zs hz hk ha h hc
  by_cases c:a < R.length
  .have hp:R[((a:Int)).toNat]? = some R[a]:=by simp[c]
   obtain ⟨us,hu,e⟩:=lp.rnd w1 R a R[a] zs hz h ⟨by omega,by omega⟩ hp;obtain ⟨X,hX⟩:=zj0 R[a] rs R;have hI:=zmj (p:=R[a]) ok rs R (fun r hr=>hr) h (List.getElem_mem c);have hC:Clo rs (rs.foldl (zci R[a]) R) (a+1):=fun i p hi hp r hr e=>by
    by_cases z:i=a
    .subst z;rw[hX,List.getElem?_append_left c,List.getElem?_eq_getElem c] at hp;cases hp;exact zoF rs R r hr e
    .rw[hX];rw[hX,List.getElem?_append_left ∅] at hp;exact List.mem_append_left _ (hc i p ∅ hp r hr e)
   obtain ⟨R',z,zs',e2,l2,i2,c2,Y,hY⟩:=ih (rs.foldl (zci R[a]) R) (a+1) us hu ∅ (by rw[hX];simp;omega) hI hC;refine ⟨R',z,zs', ?_,l2,i2,c2,X++Y,by rw[hY,hX,List.append_assoc]⟩;rw[zbA,lp.tst w1 R a zs hz,decide_eq_true c];dsimp only;rw[e];exact e2
  .refine ⟨R,⇑a,zs, ?_,hz,h, ?_,[],by simp⟩
   .rw[zbA,lp.tst w1 R a zs hz,decide_eq_false c]
   .have:R.length=a:=by omega
    rw[this];exact hc
theorem znF {n one:Int} {rs:List Road} (ok:zay n rs):zpD n rs one zbe zbh 3 where
 tst w1 R a zs hz:=by
  match zs,hz with
  | [z4,z5,z6],_=>exact zkF R a
 rnd w1 R a p zs hz h ha hp:=by
  match zs,hz with
  | [z4,z5,z6],_=>
   obtain ⟨u4,u5,u6,e⟩:=zjn ok (w1:=w1) (z4:=z4) (z5:=z5) (z6:=z6) h ha hp;exact ⟨[u4,u5,u6],rfl,e⟩
theorem zsM {rs:List Road} {R:List Int} (hc:Clo rs R R.length):∀{p q L:Int},Wk rs p q L->p∈R->q∈R:=by
 intro p q L w
 induction w with
 | nil p=>exact id
 | cons hr _ ih=>
  intro hp;obtain ⟨i,hi,e⟩:=List.getElem_of_mem hp;exact ih (hc i _ hi (by rw[List.getElem?_eq_getElem hi,e]) _ hr rfl)
theorem zjO:∀R:List Int,dIs (R.map PyData.int)=some R
 | []=>rfl
 | x::xs=>by rw[List.map_cons,dIs,zjO xs];rfl
theorem ziU (R:List Int):zsOf (zad R)=some R:=by
 unfold zsOf;rw[zbK];exact zjO R
theorem ziq {R:List Int} (h:R.length < 64):zc5 (zad R)=some (zad (zdq R)):=by
 unfold zc5;rw[ziU];dsimp only;rw[if_pos h];rfl
structure Rch (n:Int) (rs:List Road) (one:Int) (R:List Int):Prop where
 nd:R.Nodup
 len:R.length<=n.toNat
 mem:∀v,v∈R↔∃L,Wk rs one v L
theorem zlo {n one:Int} {rs:List Road} (ok:zay n rs) (h1:0<=one/\one < n) {T:TF} {S:SF} {l:Nat} (lp:zpD n rs one T S l) (zs:List O) (hz:zs.length=l):∃(R:List Int) (z:O) (zs':List O),zev T S (.d 02::⇑one::zad [one]::⇑0::zs)=.nx (.d 02::⇑one::zad R::z::zs')/\zs'.length=l/\Rch n rs one R:=by
 have n1:=ok.n1;have c0:Rc1 n rs one [one]:=⟨by simp,fun v hv=>by obtain rfl:=List.mem_singleton.mp hv;exact h1,fun v hv=>by obtain rfl:=List.mem_singleton.mp hv;exact ⟨0,.nil _⟩⟩;obtain ⟨R,z,zs',e,l,hI,hC,X,hX⟩:=zjr ok lp (w1:=⇑one) n.toNat [one] 0 zs hz ∅ (by simp) c0 (fun i p hi=>by omega);exact ⟨R,z,zs',ziO e (by intro z;cases z),l,hI.nd,hI.len,fun v=>⟨hI.wk v,fun ⟨L,w⟩=>zsM hC w (by rw[hX];simp)⟩⟩
theorem zdr {n one:Int} {rs:List Road} (ok:zay n rs) (h1:0<=one/\one < n):∃R:List Int,zaU [.d 02,⇑one]=.ok (zad (zdq R)) []/\Rch n rs one R:=by
 have n1:=ok.n1;obtain ⟨R,z,zs',e2,l,hR⟩:=zlo ok h1 (znF ok) [.z,.z,.z] rfl;have hl:=hR.len;have so:=ziq (R:=R) ∅;refine ⟨R, ?_,hR⟩
 match zs',l with
 | [b,c,d],_=>
 unfold zaU zcV;unfold zad at *;rw[List.map_singleton] at e2;simp (disch:=omega) [zbW,e2,so]
theorem zfJ {n one:Int} {rs:List Road} (ok:zay n rs) (h1:0<=one/\one < n) :
  ∃S:List Int,zaU [.d 02,⇑one]=.ok (zad S) []/\(∀v,v∈S↔∃L,Wk rs one v L):=by
 obtain ⟨R,e,h⟩:=zdr ok h1;exact ⟨_,e,fun v=>(zdb R).mem_iff.trans (h.mem v)⟩
def tC (n:Int) (rs:List Road) (one v:Int):Option Int:=cell 03 one.toNat v.toNat
theorem ztW {n one v:Int} {rs:List Road} (N:Net n rs) (h1:0<=one/\one < n) (hv:0<=v/\v < n) :
  ((∃L,Wk rs one v L)->tC n rs one v=some ((zaz n.toNat rs 003).h v))/\(¬(∃L,Wk rs one v L)->tC n rs one v=none):=by
 refine ⟨fun ⟨L,w⟩=>?_,fun h=>?_⟩
 .obtain ⟨ws,_,_,_,d,e,_⟩:=zjW N.ok N.taut hv w;rw[e];exact (zeX N.ok N.taut h1 hv).mpr d
 .exact (zeZ N.ok N.taut h1 hv).mpr fun L w=>h ⟨L,w⟩
theorem zb2 {n one:Int} {rs:List Road} (N:Net n rs) (h1:0<=one/\one < n) :
  zaM [.d 02,⇑one]=.ok (fnO (eO (tC n rs one)) n.toNat) []:=by
 have n1:=N.ok.n1;have hr:okR n=true:=zeq ∅ ∅;have lf:=zfe N.ok h1;obtain ⟨S,pr,hS⟩:=zfJ N.ok h1;obtain ⟨q,e⟩:=zds (js:=[none,some 4,some 2]) (G:=gtN 0) (T:=gRet true) (A:=zb3)
  (ρ:=[.d 02,⇑one,fnO (hO (zaz n.toNat rs 003).h) n.toNat,fnO (eO (zaz n.toNat rs 003).e) n.toNat,zad S])
  (fun _=>true) (fun o=>match o with | ⇑v=>eO (tC n rs one) v | _=>.z) (items:=rngO 0 n.toNat) (acc:=[]) (q:=true) (fun y hy=>by
   obtain ⟨i,hi⟩:=List.getElem?_of_mem hy;obtain ⟨hi,rfl⟩:=zda hi;have tq:=ztW N h1 (v:=0+i) ∅;have fi:=zhB false S (0+i);have rd:=zpG (ρ:=060) (k:=2) (a:=0) (f:=hO (zaz n.toNat rs 003).h) (n:=n.toNat) (i:=0+i) rfl rfl ∅ rfl;refine ⟨060,060,true,by simp,by simp,fun _=>?_,fun h=>by cases h⟩;refine ⟨.own (eO (tC n rs one) (0+i)),060,true,060, ?_, ?_,by simp⟩
   .unfold zb3
    by_cases c:(0+(i:Int))∈S
    .rw[show eO (tC n rs one) (0+i)=_ from congrArg cO (tq.1 ((hS _).mp c))];unfold zad fnO at *;simp[fi,c,rd,-zcJ,cO,-Int.zero_add]
    .rw[show eO (tC n rs one) (0+i)=_ from congrArg cO (tq.2 fun z=>c ((hS _).mpr z))];unfold zad fnO at *;simp[fi,c,rd,-zcJ,cO,-Int.zero_add]
   .show coe _ (.own (eO (tC n rs one) (0+i)))=some (eO (tC n rs one) (0+i),_)
    obtain ⟨x,hx⟩:=cO_d (tC n rs one (0+i));unfold eO;rw[hx];simp)
 have er:((rngO 0 n.toNat).map fun o=>match o with | ⇑v=>eO (tC n rs one) v | _=>.z)=(List.range n.toNat).map fun v:Nat=>eO (tC n rs one) v:=by
  unfold rngO;rw[List.map_map];apply List.map_congr_left;intro v _;simp[Function.comp]
 rw[zdn,List.nil_append,er] at e;unfold zaM zdd;unfold fnO zad netD at *;simp (disch:=omega) [lf,pr,zi6 hr,e,zcN,zbW,ixN]
def oD:Option Int->PyData
 | none=>.none
 | some x=>.int x
theorem zgY (o:Option Int):cO o=.d (oD o):=by cases o<;>rfl
theorem zos {ρ:Rho} {f:Int->O} {n:Nat} {i:Int} {x:PyData} (hi:0<=i/\i < n) (hf:f i=.d x):gIx ρ (.own (fnO f n)) i=some (.own (.d x)):=by
 rw[zcK];unfold fnO
 have:((i.toNat:Nat):Int)=i:=by omega
 have hl:i.toNat < n:=by omega
 simp[els,zd5 (n:=n) (i:=i) hi,hl,this,hf,ze0]
theorem zm2 {n one other:Int} {rs:List Road} (N:Net n rs) (h1:0<=one/\one < n) (h2:0<=other/\other < n) :
  zb8 036=.ok (.d (.tuple [oD ((tC n rs other one).map fun x=>-x),oD (tC n rs one other)])) []:=by
 have q:=za2 N.ok h1 h2;have t:=zcH N.ok N.taut;have l1:=zb2 N h1;have l2:=zb2 N h2;have g1:∀ρ,gIx ρ (.own (fnO (eO (tC n rs one)) n.toNat)) other=some (.own (.d (oD (tC n rs one other)))):=fun ρ=>zos ∅ (zgY _)
 have g2:∀ρ,gIx ρ (.own (fnO (eO (tC n rs other)) n.toNat)) one=some (.own (.d (oD (tC n rs other one)))):=fun ρ=>zos ∅ (zgY _)
 unfold zb8 ze6
 cases e:tC n rs other one with
 | none=>
  rw[e] at g2;simp (disch:=omega) [q,t,l1,l2,g1,g2,-zcK,zbW,oD]
 | some x=>
  rw[e] at g2;simp (disch:=omega) [q,t,l1,l2,g1,g2,-zcK,zbW,oD]
theorem zjv {ρ:Rho} {k a b:Nat} {t:Tab} {n:Nat} {i j:Int} (sh:Shape n t) (hk:ρ[k]? = some (.d (tabD t))) (ha:ρ[a]? = some ⇑i) (hb:ρ[b]? = some ⇑j) (hi:0<=i/\i < n) (hj:0<=j/\j < n) :
  eIx (eIx (zaa k) (zaa a)) (zaa b) ρ=.ok (.own (.d (oD (cell t i.toNat j.toNat)))) ρ true:=by
 obtain ⟨r,e1,e2,hm⟩:=sh.at (i:=i.toNat) (j:=j.toNat) ∅ ∅;have l1:=sh.len;have l2:=sh.row r hm;have f1:gIx ρ (.at k []) i=some (.own (.d (rowD r))):=by
  rw[zdE,hk];unfold tabD;simp[els,zd5 (n:=t.length) (i:=i) ∅,e1,ze0]
 have f2:gIx ρ (.own (.d (rowD r))) j=some (.own (.d (oD (cell t i.toNat j.toNat)))):=by
  rw[zcK];unfold rowD;simp[els,zd5 (n:=r.length) (i:=j) ∅,e2,ze0]
  cases cell t i.toNat j.toNat<;>rfl
 simp[hk,ha,hb,f1,f2,tabD,-zdE,-zcK]
@[simp] theorem zuu (ρ:Rho) (i:Nat) (x:PyData) (h:ρ[i]? = some (.d x)):zeH ρ (.at i [])=none:=by
 simp[zeH,h]
theorem ztJ {T:TF} {S U:SF} {ρ ρ':Rho} {q:Bool} (h:T ρ=.ok false ρ' q):sIf T S U ρ=U ρ':=by simp[h]
theorem zjG (rs:List Road):fz (zbP rs)=some (zar rs):=by
 have:=zhR (rs.map zaG)
 rw[List.map_map] at this;exact this
theorem zoO (n:Int) (rs:List Road):fz (netO n rs)=some 02:=by
 unfold netO netD;rw[fz,fzs,fz_d,fzs,zjG,fzs];rfl
theorem ziG (r:List 08):fz (rowO r)=some (rowD r):=by
 unfold rowO rowD
 have:=zhR (r.map optD)
 rw[List.map_map] at this;rw[<-this]
 congr 2
 apply List.map_congr_left;intro o _
 cases o<;>rfl
theorem zjC:∀t:Tab,fzs (t.map rowO)=some (t.map rowD)
 | []=>by rw[List.map_nil,fzs];rfl
 | r::t=>by rw[List.map_cons,fzs,ziG,zjC t];rfl
theorem zjZ (t:Tab):fz (tabO t)=some (tabD t):=by
 unfold tabO tabD;rw[fz,zjC];rfl
theorem zic:∀r:List 08,PyData.canLayAll0 (r.map optD)=true/\PyData.depthAll (r.map optD)=0
 | []=>by simp[PyData.canLayAll0,PyData.depthAll]
 | o::r=>by
  have:=zic r
  cases o<;>simp[PyData.canLayAll0,PyData.depthAll,PyData.canLay0,PyData.depth,optD,this]
theorem zkG (r:List 08):SeqAt.shaped (rowD r)=true:=by
 have:=zic r
 simp[SeqAt.shaped,rowD,PyData.canLay0,PyData.depth,this]
theorem zn0 (r:List 08):((r.map optD).any fun y=>PyData.eqv y .none)=decide (none∈r):=by
 induction r with
 | nil=>simp
 | cons o r ih=>
  rw[List.map_cons,List.any_cons,ih]
  cases o<;>simp[PyData.eqv,optD]
end My
noncomputable section
namespace My
open PySem L2
def zdC:EF:=(zah 06 zaM (zac (zaa 1) 030))
def zfV:SF:=(sSeq (zbd (zah [false] zbq 030))
  (sSeq (zbd (zah [false] zaT 030))
  (sRet coe (eLC (itR1 069) [none,some 0] (gtN 0) 055 zdC))))
def zbi:FC:=runF [false] 1 zfV
end My
end
namespace My
open PySem L2
theorem zsg {n:Int} {rs:List Road} {i:Nat} {r:List 08} (hi:i < n.toNat) (hr:03[i]? = some r) (hl:r.length=n.toNat):fnO (eO (tC n rs i)) n.toNat=rowO r:=by
 unfold fnO rowO
 congr 1
 apply List.ext_getElem?;intro j;rw[List.getElem?_map,List.getElem?_map]
 by_cases hj:j < n.toNat
 .rw[List.getElem?_range hj]
  have:r[j]? = some (cell 03 i j):=by
   unfold cell;rw[hr,Option.getD_some,List.getElem?_eq_getElem ∅];rfl
  rw[this]
  show some (eO (tC n rs i) j)=some (cO _)
  unfold eO tC;exact rfl
 .rw[List.getElem?_eq_none (by simp;omega),List.getElem?_eq_none ∅];rfl
theorem zrn (n:Int) (rs:List Road):O.l ((List.range n.toNat).map fun i:Nat=>fnO (eO (tC n rs i)) n.toNat)=tabO 03:=by
 have sh:=zeh n.toNat rs;unfold tabO
 congr 1
 apply List.ext_getElem?;intro i;rw[List.getElem?_map,List.getElem?_map]
 by_cases hi:i < n.toNat
 .rw[List.getElem?_range hi];have hl:i < (zao n.toNat rs).length:=by rw[sh.len];exact hi
  have e:=List.getElem?_eq_getElem hl;rw[e];exact congrArg some (zsg hi e (sh.row _ (List.getElem_mem hl)))
 .rw[List.getElem?_eq_none (by simp;omega),List.getElem?_eq_none (by rw[sh.len];omega)];rfl
theorem ze8 {n:Int} {rs:List Road} (ok:zay n rs) (T:Taut rs):zbi [.d 02]=.ok (tabO 03) []:=by
 have n0:=ok.n0;have n1:=ok.n1;have hr:okR n=true:=zeq ∅ ∅;have cn:=zed ok;have ct:=zcH ok T;obtain ⟨q,e⟩:=zds (js:=[none,some 0]) (G:=gtN 0) (T:=gRet true) (A:=zdC) (ρ:=[.d 02])
  (fun _=>true) (fun o=>match o with | ⇑v=>fnO (eO (tC n rs v)) n.toNat | _=>.z) (items:=rngO 0 n.toNat) (acc:=[]) (q:=true) (fun y hy=>by
   obtain ⟨i,hi⟩:=List.getElem?_of_mem hy;obtain ⟨hi,rfl⟩:=zda hi;have lf:=zb2 (one:=0+i) ⟨ok,by omega,T⟩ ∅;refine ⟨[⇑(0+i),.d 02],[⇑(0+i),.d 02],true,by simp,by simp,fun _=>?_,fun h=>by cases h⟩;refine ⟨.own (fnO (eO (tC n rs (0+i))) n.toNat),[⇑(0+i),.d 02],false,[⇑(0+i),.d 02], ?_, ?_,by simp⟩
   .unfold zdC;unfold fnO at *;exact (zaI 00 rfl lf rfl rfl)
   .unfold fnO;simp)
 have er:((rngO 0 n.toNat).map fun o=>match o with | ⇑v=>fnO (eO (tC n rs v)) n.toNat | _=>.z)=(List.range n.toNat).map fun i:Nat=>fnO (eO (tC n rs i)) n.toNat:=by
  unfold rngO;rw[List.map_map];apply List.map_congr_left;intro v _;simp[Function.comp]
 rw[zdn,List.nil_append,er] at e;have ft:=zrn n rs;unfold zbi zfV;generalize hX:((List.range n.toNat).map fun i:Nat=>fnO (eO (tC n rs i)) n.toNat)=Xs at *;unfold tabO netD at *;simp -implicitDefEqProofs (disch:=omega) [cn,ct,zi6 hr,e,zcN,zbW,ixN];exact O.l.inj ft
end My
noncomputable section
namespace My
open PySem L2
def zcM:SF:=(sSeq (sIf (gOr (gNot (zdG ↥0 (zaa 6) (eB (zac (zaa 4) aNil) (f1 fLen)) 063 (fun i j=>decide (i < j)))) (tst (e2 (eIx (eIx (zaa 4) (zaa 6)) ↥0) (zaa 5) 0000))) 005 sNil)
  (sAsg coe (eIx (eIx (zaa 4) (zaa 6)) ↥1) (gtN 5)))
def zfQ:SF:=(sSeq (sAsg coe 059 (gtN 4))
  (sSeq (sAsg coe (zaa 1) (gtN 5))
  (sSeq (zfD (srcM false 001 (zaa 3)) (gtN 6) zcM)
  (sRet mov (e2 (zaa 5) (zaa 2) (fEq false))))))
def zcQ:FC:=runF 01 7 zfQ
def zcv:EF:=(eIx (eIx (zaa 1) (zaa 0)) ↥2)
def zdL:SF:=(sSeq (sAsg coe 059 (gtN 2))
  (sRet coe (eB (zac (eLS (srcM true 001 (zaa 1)) [none,some 2] (gtN 0) 055 zcv) aNil) (f1 fSum))))
def zbx:FC:=runF 06 3 zdL
end My
end
namespace My
open PySem L2
def entD (n:Nat) (e:Int->Option Int):PyData:=.list ((List.range n).map fun v:Nat=>oD (e v))
theorem zsz (n:Nat) (e:Int->Option Int):fz (fnO (eO e) n)=some (entD n e):=by
 have h:=zhR ((List.range n).map fun v:Nat=>oD (e v));rw[List.map_map] at h;unfold fnO entD;rw[<-h]
 congr 2
 apply List.map_congr_left;intro v _;exact zgY _
theorem zg4 {ρ:Rho} {k:Nat} {ds:List PyData} {i:Int} {j:Nat} {x:PyData} (hk:ρ[k]? = some (.d 050)) (hj:ixN ds.length i=some j) (hx:ds[j]? = some x):gIx ρ (.at k []) i=some (.own (.d x)):=by
 rw[zdE,hk];simp[els,hj,hx]
theorem zmr {ρ:Rho} {k n:Nat} {e:Int->Option Int} {i x:Int} (hk:ρ[k]? = some (.d (entD n e))) (hi:0<=i/\i < n) (hx:e i=some x):gIx ρ (.at k []) i=some (.own ⇑x):=by
 refine zg4 hk (j:=i.toNat) (zd5 ⟨hi.1,by simpa using hi.2⟩) ?_
 have:((i.toNat:Nat):Int)=i:=by omega
 have hl:i.toNat < n:=by omega
 rw[List.getElem?_map,List.getElem?_range hl];simp[this,hx,oD]
theorem zgG {ρ:Rho} {k:Nat} {rs:List Road} {i:Int} {r:Road} (hk:ρ[k]? = some (.d 007)) (h:zaH rs i=some r):gIx ρ (.at k []) i=some (.own (.d (zaG r))):=by
 obtain ⟨h0,h1,h2⟩:=za9 h;refine zg4 hk (j:=i.toNat) (zd5 ⟨h0,by simpa using h1⟩) ?_;rw[List.getElem?_map,h2];rfl
theorem znY {ρ:Rho} {k:Nat} {ws:List Int} {x:Int} (hk:ρ[k]? = some (zad (ws++[x]))):gIx ρ (.at k []) (-1)=some (.own ⇑x):=by
 have hi:ixN (ws.length+1) (-1)=some ws.length:=by
  unfold ixN;rw[if_neg ∅,if_pos ∅]
  congr 1
  omega
 rw[zdE,hk];unfold zad;simp[els,hi]
theorem zhY {d0 d1 d2 d3:O} {rs:List Road} {ws:List Int} {k:Int} {r:Road} (h:zaH rs k=some r) :
  eIx (eIx (zaa 4) (eIx (zaa 5) ↥(-1))) ↥0 [d0,d1,d2,d3,.d 007,zad (ws++[k])]=.ok (.own ⇑r.1) [d0,d1,d2,d3,.d 007,zad (ws++[k])] true:=by
 have g1:=znY (ρ:=[d0,d1,d2,d3,.d 007,zad (ws++[k])]) (k:=5) rfl;have g2:=zgG (ρ:=[d0,d1,d2,d3,.d 007,zad (ws++[k])]) (k:=4) (i:=k) rfl h;unfold zad at *;generalize (ws++[k]).map 025=Wl at *;have g3:∀ρ,gIx ρ (.own (.d (zaG r))) 0=some (.own ⇑r.1):=fun ρ=>by rw[zcK];simp[els,zaG,ixN]
 simp[g1,g2,g3,-zdE,-zcK]
theorem zkN {n:Int} {rs:List Road} (ok:zay n rs) {e:Int->Option Int} {y:Int} {d0 d3:O}:∀(ws done:List Int) (x k:Int),FB rs e y x (k::ws)->done.length+ws.length<=1000->
  zbA zbz zb9 (ws.length+1) [d0,.d 057,⇑y,d3,.d 007,zad (done++[k])]=.nx [d0,.d 057,⇑y,d3,.d 007,zad (done++k::ws)]:=by
 intro ws
 induction ws with
 | nil=>
  intro done x k h hl;obtain ⟨_,r,hr,z⟩:=h;have hy:r.1=y:=z.elim (fun z=>z.1) fun z=>z.2.elim
  have fl:=zhY (d0:=d0) (d1:=.d 057) (d2:=⇑y) (d3:=d3) (ws:=done) hr;rw[zbA];unfold zbz;unfold zad at *;generalize (done++[k]).map 025=Wl at *;simp[fl,-zcJ,hy]
 | cons k' ws ih=>
  intro done x k h hl;obtain ⟨_,r,hr,z⟩:=h;obtain ⟨hy,h'⟩:r.1≠y/\FB rs e y r.1 (k'::ws):=z.elim (fun z=>by cases z.2) id;have hin:=(ok.rd r (zbp hr)).1;have n0:=ok.n0;have fl:=zhY (d0:=d0) (d1:=.d 057) (d2:=⇑y) (d3:=d3) (ws:=done) hr;have ge:=zmr (ρ:=[d0,.d 057,⇑y,d3,.d 007,zad (done++[k])]) (k:=1) (n:=n.toNat) (e:=e) (i:=r.1) rfl ∅ h'.1;have st:zb9 [d0,.d 057,⇑y,d3,.d 007,zad (done++[k])]=.nx [d0,.d 057,⇑y,d3,.d 007,zad ((done++[k])++[k'])]:=by
   have ex:eIx (zaa 1) (eIx (eIx (zaa 4) (eIx (zaa 5) ↥(-1))) ↥0) [d0,.d 057,⇑y,d3,.d 007,zad (done++[k])]=.ok (.own ⇑k') [d0,.d 057,⇑y,d3,.d 007,zad (done++[k])] true:=by
    rw[zcJ];unfold zad at *;generalize (done++[k]).map 025=Wl at *;simp[fl,ge,-zdE,-zcJ]
   simp only[List.length_cons] at hl;have hW:((done++[k]).map 025).length=done.length+1:=by simp
   unfold zb9;unfold zad at *;rw[show ((done++[k])++[k']).map 025=(done++[k]).map 025++[O.d (.int k')] from by rw[List.map_append];rfl];generalize (done++[k]).map 025=Wl at *;simp (disch:=omega) [ex,-zcJ,zej,hW]
  have t:zbz [d0,.d 057,⇑y,d3,.d 007,zad (done++[k])]=.ok true [d0,.d 057,⇑y,d3,.d 007,zad (done++[k])] true:=by
   unfold zbz;unfold zad at *;generalize (done++[k]).map 025=Wl at *;simp[fl,-zcJ,hy]
  rw[zbA,t];dsimp only;rw[st];dsimp only
  have:=ih (done++[k]) r.1 k' h' (by simp at hl ⊢;omega)
  have e2:done++[k]++k'::ws=done++k::k'::ws:=by simp
  rw[e2] at this;exact this
theorem ziz (ws:List Int):fRev (zad ws)=some (zad ws.reverse):=by
 have e:ws.map 025=(ws.map PyData.int).map O.d:=by rw[List.map_map];rfl
 unfold fRev zad;rw[e];simp only[els,zd9];rw[<-List.map_reverse,List.map_map];rfl
theorem zju {n:Int} {rs:List Road} (ok:zay n rs) {e:Int->Option Int} {y x:Int} {ws:List Int} (hx:0<=x/\x < n) (h:FB rs e y x ws) (hl:ws.length<=900) :
  zcA [.d 02,.d 057,⇑y,⇑x]=.ok (zad ws.reverse) []:=by
 cases ws with
 | nil=>exact h.elim
 | cons k ws=>
  have ge:=zmr (ρ:=[.d 02,.d 057,⇑y,⇑x,.d 007,.z]) (k:=1) (n:=n.toNat) (e:=e) (i:=x) rfl ∅ h.1;have bw:=ziO (zkN ok (d0:=.d 02) (d3:=⇑x) ws [] x k h (by simp at hl ⊢;omega)) (fun z=>by cases z);have rv:=ziz ([]++k::ws);have b1:(sAsg coe 059 (gtN 4)) [.d 02,.d 057,⇑y,⇑x,.z,.z]=.nx [.d 02,.d 057,⇑y,⇑x,.d 007,.z]:=by
   unfold netD zar;exact (zap 038 rfl rfl)
  have b2:(sAsg coe (zaA coes .l (zac (eIx (zaa 1) (zaa 3)) aNil)) (gtN 5)) [.d 02,.d 057,⇑y,⇑x,.d 007,.z]=.nx [.d 02,.d 057,⇑y,⇑x,.d 007,zad ([]++[k])]:=by
   unfold zad;exact (zap (zaw (zab (zbt rfl 09 rfl ge) rfl rfl) rfl 079 rfl) rfl rfl)
  have main:zdl [.d 02,.d 057,⇑y,⇑x,.z,.z]=.rt (zad ([]++k::ws).reverse) [.d 02,.d 057,⇑y,⇑x,.d 007,zad ([]++k::ws)]:=by
   unfold zdl;rw[zcY b1,zcY b2,zcY bw];unfold zad at rv ⊢;generalize ([]++k::ws).map 025=Wl at *;generalize ([]++k::ws).reverse.map 025=Wr at *;exact (zaL (zpN rfl rfl rv) rfl)
  unfold zcA;rw[List.nil_append] at main;simp[main,runF]
theorem zfK (ws:List Int):(ws.map PyData.int).map O.d=ws.map fun k=>O.d (.int k):=by rw[List.map_map];rfl
theorem zhb {rs:List Road} {p q k:Int} {ws:List Int} (h:zaR rs p q (k::ws)=true):∃r,zaH rs k=some r/\r.1=p/\zaR rs r.2.1 q ws=true:=by
 rw[zaR] at h
 cases e:zaH rs k with
 | none=>rw[e] at h;cases h
 | some r=>
  rw[e] at h;dsimp only at h
  by_cases z:r.1=p
  .rw[if_pos z] at h;exact ⟨r,rfl,z,h⟩
  .rw[if_neg z] at h;cases h
theorem zjE {ρ:Rho} (r:Road):gIx ρ (.own (.d (zaG r))) 0=some (.own ⇑r.1)/\gIx ρ (.own (.d (zaG r))) 1=some (.own ⇑r.2.1)/\gIx ρ (.own (.d (zaG r))) 2=some (.own ⇑r.2.2):=by
 refine ⟨?_, ?_, ?_⟩<;>rw[zcK]<;>simp[els,zaG,ixN]
theorem znm {rs:List Road} {k:Int} {r:Road} (hr:zaH rs k=some r) (ρ:Rho):gIx ρ (.own (.d 007)) k=some (.own (.d (zaG r))):=by
 obtain ⟨h0,h1,h2⟩:=za9 hr;rw[zcK]
 have:=zd5 (n:=rs.length) (i:=k) ⟨h0,h1⟩
 simp[els,this,h2]
theorem zjY {n:Int} {rs:List Road} {ρ:Rho} {j:Nat} (hρ:ρ[j]? = some (.d 02)):gIx ρ (.at j []) 1=some (.own (.d 007)):=by
 rw[zdE,hρ];exact rfl
theorem zkR {rs:List Road} {d0 d1 d2 d3:O} {q:Int}:∀(ws:List Int) (p:Int) (z:O),zaR rs p q ws=true->
  ∃z',forF (gtN 6) zcM (ws.map fun k=>O.d (.int k)) [d0,d1,d2,d3,.d 007,⇑p,z]=.nx [d0,d1,d2,d3,.d 007,⇑q,z']:=by
 intro ws
 induction ws with
 | nil=>
  intro p z h;rw[zaR] at h;obtain rfl:=of_decide_eq_true h;exact ⟨z,rfl⟩
 | cons k ws ih=>
  intro p z h;obtain ⟨r,hr,hp,h'⟩:=zhb h;obtain ⟨h0,h1,h2⟩:=za9 hr;obtain ⟨z',e⟩:=ih r.2.1 ⇑k h';refine ⟨z', ?_⟩;have gr:=zgG (ρ:=[d0,d1,d2,d3,.d 007,⇑p,⇑k]) (k:=4) rfl hr;have g0:=fun ρ=>(zjE (ρ:=ρ) r).1
  have g1:=fun ρ=>(zjE (ρ:=ρ) r).2.1
  have st:zcM [d0,d1,d2,d3,.d 007,⇑p,⇑k]=.nx [d0,d1,d2,d3,.d 007,⇑r.2.1,⇑k]:=by
   unfold zcM;simp[gr,g0,g1,-zdE,-zcK,h0,h1,hp]
  rw[List.map_cons,forF];simp[st,e]
theorem zki {n p q:Int} {rs:List Road} {ws:List Int} (h:zaR rs p q ws=true):zcQ [.d 02,⇑p,⇑q,.d (zai ws)]=.ok 037 []:=by
 obtain ⟨z',e⟩:=zkR (d0:=.d 02) (d1:=⇑p) (d2:=⇑q) (d3:=.d (zai ws)) ws p .z h;rw[<-zfK] at e;unfold zcQ zfQ;unfold zai netD zar at *;simp[e,-List.map_map,ixN]
theorem zfb {n:Int} {rs:List Road} {ws:List Int} (hl:ws.length<=1000) (hA:zkJ rs ws):zbx [.d 02,.d (zai ws)]=.ok ⇑(zaK rs ws) []:=by
 obtain ⟨q,e⟩:=zds (js:=[none,some 2]) (G:=gtN 0) (T:=gRet true) (A:=zcv) (ρ:=[.d 02,.d (zai ws),.d 007]) (fun _=>true) (fun o=>match o with | ⇑k=>⇑(zgj rs k) | _=>.z) (items:=(ws.map PyData.int).map O.d) (acc:=[]) (q:=true) (fun y hy=>by
  rw[zfK] at hy;obtain ⟨k,hk,rfl⟩:=List.mem_map.mp hy;obtain ⟨r,hr⟩:∃r,zaH rs k=some r:=by
   obtain ⟨h0,h1⟩:=hA k hk;obtain ⟨r,hr,_⟩:=zeg h0 h1;exact ⟨r,hr⟩
  have gr:=zgG (ρ:=[⇑k,.d 007]) (k:=1) rfl hr;have g2:=fun ρ=>(zjE (ρ:=ρ) r).2.2
  have el:=zdt hr;refine ⟨[⇑k,.d 007],[⇑k,.d 007],true,by simp,by simp,(fun _=>⟨.own ⇑(zgj rs k),[⇑k,.d 007],true,[⇑k,.d 007], ?_,by simp,by simp⟩),(fun h=>by cases h)⟩;unfold zcv;rw[el];simp[gr,g2,-zdE,-zcK])
 have em:((ws.map PyData.int).map O.d).map (fun o=>match o with | ⇑k=>O.d (.int (zgj rs k)) | _=>.z)=(ws.map (zgj rs)).map fun h=>O.d (.int h):=by
  rw[zfK,List.map_map,List.map_map];rfl
 rw[zdn,List.nil_append,em] at e;have z:=ziU (ws.map (zgj rs));unfold zbx zdL zaK;unfold zad zai netD zar at *;generalize (ws.map (zgj rs)).map 025=Z at *;simp (disch:=omega) [zeH,sub,e,zbW,-List.map_map,f1,fSum,z,ixN]
def zqH (s:Str) (ws:List Int):PyData:=.tuple [.str s,zai ws]
theorem zmA {s:Str} {o:O} {ws:List Int} (h:fz o=some (zai ws)):fz (.t [.d (.str s),o])=some (zqH s ws):=by
 simp[fz,fzs,h,zqH]
theorem zql {A B:SF} {ρ ρ':Rho} {o:O} (h:A ρ=.rt o ρ'):sSeq A B ρ=.rt o ρ':=by unfold sSeq;rw[h]
theorem zgl {ms:List Bool} {n:Nat} {S:SF} {os:List O} {o:O} {ρ':Rho} (h:S (os++List.replicate (n - os.length) .z)=.rt o ρ'):runF ms n S os=.ok o (zcu ms ρ'):=by unfold runF;rw[h]
theorem zsy {s:Str} (hs:PyData.strOk s=true):fEq true (.d (.str s)) (.d (.str s))=some 0002:=by
 have c:(PyData.str s).canLay0=true:=by simp[PyData.canLay0,hs]
 have e:=zdY _ c;have sh:SeqAt.shaped (.str s)=true:=by simp[SeqAt.shaped,c,PyData.depth]
 simp[fEq,sh,e]
end My
noncomputable section
namespace My
open PySem L2
def zcG:SF:=(sSeq (sAsg coe (zah 06 zaU 006) (gtN 3))
  (sSeq (sIf (tst (e2 (zaa 2) (zaa 3) (fIn true))) (sRet mov (zaA movs mkT (zac (eC (.str "none")) (zac (zaa 3) aNil)))) sNil)
  (sSeq (sAsg coe (zah 06 zbw 006) (gtT (zaf (gtN 4) (zaf (gtN 5) zaV))))
  (sSeq (sIf (tst (e2 (zaa 1) (zaa 2) (fEq false))) (sRet mov (zaA movs mkT (zac (eC (.str "way")) (zac (zaA movs .l aNil) (zac (zaa 4) aNil))))) sNil)
  (sRet mov (zaA movs mkT (zac (eC (.str "way")) (zac (zah 01 zcA (zac (zaa 0) (zac (zaa 5) (zac (zaa 1) 058)))) (zac (zaa 4) aNil)))))))))
def zaB:FC:=runF 05 6 zcG
def zfN:SF:=(sSeq (zbd (zah 05 zat 07))
  (sSeq (zbd (zah [false] zaT 030))
  (sRet mov (zah 05 zaB 07))))
def zbB:FC:=runF 05 3 zfN
end My
end
namespace My
open PySem L2
theorem zl1 {l:List Int} (h:l.Nodup):l.reverse.Nodup:=List.pairwise_reverse.mpr (h.imp fun e=>Ne.symm e)
structure LW (n:Int) (rs:List Road) (one other:Int) (W hs:List Int):Prop where
 ld:zaR rs one other W=true
 nd:(W.map (zdH rs)).Nodup
 lW:W.length<=20
 lh:hs.length=n.toNat
 pot:Pot rs (hgt hs)
 bd:∀h∈hs,-20000000000<=h/\h<=40000000000
 df:hgt hs other - hgt hs one=zaK rs W
 ds:Dist rs one other (zaK rs W)
 no:other∉W.map (zdH rs)
def hsOf (n:Nat) (h:Int->Int):List Int:=(List.range n).map fun v:Nat=>h v
theorem zjF (n:Nat) (h:Int->Int):fnO (hO h) n=zad (hsOf n h):=by
 unfold fnO zad hsOf;rw[List.map_map];rfl
theorem zs5 {n:Nat} {h:Int->Int} {v:Int} (hv:0<=v/\v < n):hgt (hsOf n h) v=h v:=by
 unfold hgt hsOf;rw[List.getD_eq_getElem?_getD,List.getElem?_map,List.getElem?_range ∅,Option.map_some,Option.getD_some,Int.toNat_of_nonneg hv.1]
theorem zs4 {n one other:Int} {rs:List Road} (ok:zay n rs) (T:Taut rs) (h1:0<=one/\one < n) (h2:0<=other/\other < n) {W:List Int} (ld:zaR rs one other W=true) (nd:(W.map (zdH rs)).Nodup) (lW:W.length<=20)
  (no:other∉W.map (zdH rs)) (df:(zaz n.toNat rs 003).h other - (zaz n.toNat rs 003).h one=zaK rs W):LW n rs one other W (hsOf n.toNat (zaz n.toNat rs 003).h):=by
 have P:=(zdc ok T 003).2;have n0:=ok.n0;have ev:∀v,0<=v/\v < n->hgt (hsOf n.toNat (zaz n.toNat rs 003).h) v=(zaz n.toNat rs 003).h v:=fun v hv=>zs5 ∅
 refine ⟨ld,nd,lW,by unfold hsOf;simp,fun r hr=>?_,fun x hx=>?_,by rw[ev _ h1,ev _ h2];exact df,⟨zeD ld,fun L w=>?_⟩,no⟩
 .obtain ⟨a,b,_⟩:=ok.rd r hr;rw[ev _ a,ev _ b];exact P r hr
 .obtain ⟨v,hv,rfl⟩:=List.mem_map.mp hx
  have:=List.mem_range.mp hv
  exact zq8 ok T ∅
 .have:=P.wk w
  omega
theorem zde {n one other:Int} {rs:List Road} (ok:zay n rs) (T:Taut rs) (h1:0<=one/\one < n) (h2:0<=other/\other < n) :
  ((∀L,¬Wk rs one other L)/\∃R,zaB 036=.ok (.t [.d (.str "none"),zad (zdq R)]) []/\Rch n rs one R)\/
  (∃W hs,zaB 036=.ok (.t [.d (.str "way"),zad W,zad hs]) []/\LW n rs one other W hs):=by
 have n1:=ok.n1;obtain ⟨R,e1,hR⟩:=zdr ok h1;have mR:other∈zdq R↔∃L,Wk rs one other L:=(zdb R).mem_iff.trans (hR.mem other);have fi:=zhB true (zdq R) other;have lo:=zfe ok h1;have B:=zeb n.toNat rs 003;have P:=(zdc ok T 003).2
 by_cases c:∃L,Wk rs one other L
 .right
  have c':=mR.mpr c;obtain ⟨L,w⟩:=c;obtain ⟨ws,hb,_,hl,hd,hh,h0⟩:=zjW ok T h2 w
  by_cases z:one=other
  .subst z;refine ⟨[],_, ?_,zs4 ok T h1 h1 (by simp[zaR]) (by simp) (by simp) (by simp) (by simp[zaK])⟩;rw[<-zjF];have c2:decide (one∈zdq R)=true:=decide_eq_true c';rw[c2] at fi;have oe:fEq false ⇑one ⇑one=some 037:=by simp
   unfold zaB zcG;exact (zaY rfl (zag (zap 0006 rfl rfl) (zag (if_f 027 rfl) (zag (zap (zaI 00 rfl lo rfl rfl) rfl rfl) (zdQ (if_t (zaq (zal rfl rfl rfl rfl rfl oe) rfl) (zaL (zaw (zab rfl (zab 040 009 rfl) rfl) rfl 079 rfl) rfl)))))) rfl)
  .have hne:ws≠[]:=fun e=>by
    subst e;exact z hb.symm
   obtain ⟨ws',hf,hl'⟩:=FB.ex hne hb;have wb:=zju ok h2 hf ∅;have ee:=B.bk_eq P hf.bk;refine ⟨ws'.reverse,_, ?_,zs4 ok T h1 h2 (B.leads hf.bk) (by rw[List.map_reverse];exact zl1 hf.nodup) (by simp;omega) (by rw[List.map_reverse];exact fun q=>hf.last (Ne.symm z) (List.mem_reverse.mp q)) (by rw[zdR];omega)⟩;rw[<-zjF];have c2:decide (other∈zdq R)=true:=decide_eq_true c';rw[c2] at fi;have fe:=zsz n.toNat (zaz n.toNat rs 003).e;have oe:fEq false ⇑one ⇑other=some 0002:=by simp[z]
   unfold zaB zcG;exact (zaY rfl (zag (zap 0006 rfl rfl) (zag (if_f 027 rfl) (zag (zap (zaI 00 rfl lo rfl rfl) rfl rfl) (zag (if_f (zaq (zal rfl rfl rfl rfl rfl oe) rfl) rfl) (zaL (zaw (zab rfl (zab (zaI 061 (zd4 rfl (zd4 (zgX rfl fe) rfl)) wb rfl rfl) 009 rfl) rfl) rfl 079 rfl) rfl))))) rfl)
 .left
  refine ⟨fun L w=>c ⟨L,w⟩,R, ?_,hR⟩;have c2:decide (other∈zdq R)=false:=decide_eq_false fun z=>c (mR.mp z)
  rw[c2] at fi;unfold zaB zcG;unfold zad at *;generalize (zdq R).map 025=Z at *;exact (zaY rfl (zag (zap 0006 rfl rfl) (zdQ (if_t 027 (zaL (zaw 00 rfl 079 rfl) rfl)))) rfl)
theorem zjz {n one other:Int} {rs:List Road} (ok:zay n rs) (T:Taut rs) (h1:0<=one/\one < n) (h2:0<=other/\other < n) :
  ((∀L,¬Wk rs one other L)/\∃R,zbB 036=.ok (.t [.d (.str "none"),zad (zdq R)]) []/\Rch n rs one R)\/
  (∃W hs,zbB 036=.ok (.t [.d (.str "way"),zad W,zad hs]) []/\LW n rs one other W hs):=by
 have c1:=za2 ok h1 h2;have c2:=zcH ok T;have key:∀ts:List O,zaB 036=.ok (.t ts) []->zbB 036=.ok (.t ts) []:=fun ts h=>by
  unfold zbB zfN;generalize netD n rs=Nd at *;exact (zaY rfl (zag (za6 (zaN 008 rfl c1 rfl)) (zag (za6 (zaN 009 rfl c2 rfl)) (zaL (zaI 008 rfl h rfl rfl) rfl))) rfl)
 rcases zde ok T h1 h2 with ⟨a,R,e,h⟩ | ⟨W,hs,e,h⟩
 .exact .inl ⟨a,R,key _ e,h⟩
 .exact .inr ⟨W,hs,key _ e,h⟩
theorem zoW {s t:Str} (hs:PyData.strOk s=true) (ht:PyData.strOk t=true) (b:Bool) (h:PyData.eqv (.str s) (.str t)=false):fEq b (.d (.str s)) (.d (.str t))=some 085:=by
 have cs:(PyData.str s).canLay0=true:=by simp[PyData.canLay0,hs]
 have ct:(PyData.str t).canLay0=true:=by simp[PyData.canLay0,ht]
 have ss:SeqAt.shaped (.str s)=true:=by simp[SeqAt.shaped,cs,PyData.depth]
 have st:SeqAt.shaped (.str t)=true:=by simp[SeqAt.shaped,ct,PyData.depth]
 cases b<;>simp[fEq,ss,st,h]
theorem zo4:PyData.strOk (Str.ofString "way")=true:=by decide +kernel
theorem zj8:PyData.strOk (Str.ofString "none")=true:=by decide +kernel
theorem zeE:fEq false (.d (.str "way")) (.d (.str "none"))=some 0002:=zoW zo4 zj8 false (by decide +kernel)
namespace K10
end K10
theorem zag {A B:SF} {ρ ρ':Rho} {r:Rt} (h:A ρ=.nx ρ') (k:B ρ'=r):sSeq A B ρ=r:=(zcY h).trans k
theorem zi0 (ρ:Rho):zcu 01 ρ=[]:=by
 rcases ρ with _ | ⟨a,_ | ⟨b,_ | ⟨c,_ | ⟨d,e⟩⟩⟩⟩<;>rfl
theorem ze1 {o o':O} {d:PyData} (h:fz o=some d) (h':fz o'=some d) (s:SeqAt.shaped d=true) (e:PyData.eqv d d=true) (b:Bool):fEq b o o'=some (.d (.bool (!b))):=by
 unfold fEq;rw[h,h']
 cases b<;>simp[s,e]
namespace K10
end K10
end My
namespace L2
open PySem PySem.Spec PyProof.Rows
section
variable {X:Cx}
end
end L2
noncomputable section
namespace My
open PySem L2
def zeO:SF:=(sSeq (sIf (tst (e2 013 (zaa 0) (fIn false))) (sRet mov 013) sNil)
  (sRet mov (eB 030 (f1 fSum))))
def zaJ:FC:=runF [false] 1 zeO
def zdJ:SF:=(sIf (gNot (zdG ↥0 (zaa 1) (eB (zac 059 aNil) (f1 fLen)) 063 (fun i j=>decide (i < j)))) sBad sNil)
def zcc:FC:=runF 06 2 zdJ
def zcf:SF:=(sSeq (zbd (zah 05 zat 07))
  (sSeq (zbd (zah 06 zcc 068))
  (zbd (zah [false] zaT 030))))
def zaF:FC:=runF 01 4 zcf
def zgu:SF:=(sSeq (zbd (zah 01 zaF 019))
  (sSeq (sAsg coe (eIx 059 (zaa 3)) (gtT (zaf (gtN 4) (zaf (gtN 5) (zaf (gtN 6) zaV)))))
  (sSeq (sAsg coe (zah 05 zaB (zac (zaa 0) (zac (zaa 1) (zac (zaa 4) aNil)))) (gtN 7))
  (sSeq (sAsg coe (zah 05 zaB (zac (zaa 0) (zac (zaa 5) 058))) (gtN 8))
  (sSeq (sIf (gOr (tst (e2 (eIx (zaa 7) ↥0) (eC (.str "none")) (fEq false))) (tst (e2 (eIx (zaa 8) ↥0) (eC (.str "none")) (fEq false)))) (sRet mov 013) sNil)
  (sSeq (sAsg coe (e2 (e2 (eIx (zaa 7) ↥1) (zaA coes .l (zac (zaa 3) aNil)) fAdd) (eIx (zaa 8) ↥1) fAdd) (gtN 9))
  (sRet mov (zaA movs mkT (zac (zah 06 zbx (zac (zaa 0) (zac (zaa 9) aNil))) (zac (zaa 9) aNil))))))))))
def zcC:FC:=runF 01 10 zgu
end My
end
namespace My
open PySem L2
theorem zhD {n k:Int} {rs:List Road} (hk:0<=k/\k < rs.length):zcc [.d 02,⇑k]=.ok 042 []:=by
 have gn:=zjY (n:=n) (rs:=rs) (ρ:=[.d 02,⇑k]) (j:=0) rfl;unfold zcc zdJ;generalize netD n rs=Nd at *;simp[gn,-zdE,els,hk.1,hk.2]
theorem zgE {n one other k:Int} {rs:List Road} (ok:zay n rs) (T:Taut rs) (h1:0<=one/\one < n) (h2:0<=other/\other < n) (hk:0<=k/\k < rs.length):zaF 026=.ok 042 []:=by
 have c1:=za2 ok h1 h2;have c2:=zhD (n:=n) hk;have c3:=zcH ok T;unfold zaF zcf;generalize netD n rs=Nd at *;exact (zoR rfl (zag (za6 (zaN 008 rfl c1 rfl)) (zag (za6 (zaN 00 rfl c2 rfl)) (za6 (zaN 009 rfl c3 rfl)))) rfl)
structure BW (rs:List Road) (one other k L:Int) (W:List Int):Prop where
 ld:zaR rs one other W=true
 ln:zaK rs W=L
 mem:k∈W
 len:W.length<=41
theorem zul {n one other k:Int} {rs:List Road} {r:Road} {A B a b:List Int} (hr:zaH rs k=some r) (x:LW n rs one r.1 A a) (y:LW n rs r.2.1 other B b):BW rs one other k (zaK rs A+r.2.2+zaK rs B) (A++[k]++B):=by
 refine ⟨zef (zef x.ld (zgo hr)) y.ld, ?_,by simp, ?_⟩
 .rw[zfC,zfC,zcq,zdt hr];simp[zaK]
 .have:=x.lW
  have:=y.lW
  simp;omega
theorem ziv {a b:List Int} (h:a.length+b.length<=1000):fAdd (zad a) (zad b)=some (zad (a++b)):=by
 have ha:=zfK a;have hb:=zfK b;have hz:(a.map PyData.int).length+(b.map PyData.int).length<=sizeLine:=by
  have:sizeLine=16777216:=rfl
  simp;omega
 unfold zad;rw[<-ha,<-hb];simp only[fAdd,els,zd9];rw[if_pos hz,<-zfK,List.map_append,List.map_append,List.map_append]
theorem zdM:fEq false (.d (.str "none")) (.d (.str "none"))=some 037:=by
 have:=zsy zj8
 unfold fEq at this ⊢;simp only[fz_d] at this ⊢
 revert this
 cases SeqAt.shaped (.str (Str.ofString "none"))<;>cases PyData.eqv (.str (Str.ofString "none")) (.str (Str.ofString "none"))<;>simp
namespace By
theorem zoi {n k:Int} {rs:List Road} {r:Road} {w1 w2 w4 w5 w6 w7 w8 w9:O} (hr:zaH rs k=some r):(sAsg coe (eIx 059 (zaa 3)) (gtT (zaf (gtN 4) (zaf (gtN 5) (zaf (gtN 6) zaV))))) [.d 02,w1,w2,⇑k,w4,w5,w6,w7,w8,w9]=.nx [.d 02,w1,w2,⇑k,⇑r.1,⇑r.2.1,⇑r.2.2,w7,w8,w9]:=by
 have gn:=zjY (n:=n) (rs:=rs) (ρ:=[.d 02,w1,w2,⇑k,w4,w5,w6,w7,w8,w9]) (j:=0) rfl;have gr:=znm hr;generalize netD n rs=Nd at *;simp[gn,gr,-zdE,-zcK,els,zaG]
theorem b_a {N:PyData} {w2 w3 w5 w6 w7 w8 w9:O} {p s:Int} {ts:List O} {Fl:FC} (h:Fl [.d N,⇑p,⇑s]=.ok (.t ts) []):(sAsg coe (zah 05 Fl (zac (zaa 0) (zac (zaa 1) (zac (zaa 4) aNil)))) (gtN 7)) [.d N,⇑p,w2,w3,⇑s,w5,w6,w7,w8,w9]=.nx [.d N,⇑p,w2,w3,⇑s,w5,w6,.t ts,w8,w9]:=by
 exact (zap (zaI 008 rfl h rfl rfl) rfl rfl)
theorem b_b {N:PyData} {w1 w3 w4 w6 w7 w8 w9:O} {q s:Int} {ts:List O} {Fl:FC} (h:Fl [.d N,⇑s,⇑q]=.ok (.t ts) []):(sAsg coe (zah 05 Fl (zac (zaa 0) (zac (zaa 5) 058))) (gtN 8)) [.d N,w1,⇑q,w3,w4,⇑s,w6,w7,w8,w9]=.nx [.d N,w1,⇑q,w3,w4,⇑s,w6,w7,.t ts,w9]:=by
 exact (zap (zaI 008 rfl h rfl rfl) rfl rfl)
theorem b_if {w0 w1 w2 w3 w4 w5 w6 w9:O} {s t u:Str} {x y:List O} {a b:Bool} (h1:fEq false (.d (.str s)) (.d (.str u))=some (.d (.bool a))) (h2:fEq false (.d (.str t)) (.d (.str u))=some 085) :
  ∃q,(gOr (tst (e2 (eIx (zaa 7) ↥0) (eC (.str u)) (fEq false))) (tst (e2 (eIx (zaa 8) ↥0) (eC (.str u)) (fEq false)))) [w0,w1,w2,w3,w4,w5,w6,.t (.d (.str s)::x),.t (.d (.str t)::y),w9]=.ok (a || b) [w0,w1,w2,w3,w4,w5,w6,.t (.d (.str s)::x),.t (.d (.str t)::y),w9] q:=by
 have g7:∀ρ:Rho,ρ[7]? = some (.t (.d (.str s)::x))->gIx ρ (.at 7 []) 0=some (.own (.d (.str s))):=fun ρ z=>by
  have:ixN (x.length+1) 0=some 0:=by unfold ixN;rw[if_pos ∅,if_pos ∅];rfl
  simp[z,els,this]
 have g8:∀ρ:Rho,ρ[8]? = some (.t (.d (.str t)::y))->gIx ρ (.at 8 []) 0=some (.own (.d (.str t))):=fun ρ z=>by
  have:ixN (y.length+1) 0=some 0:=by unfold ixN;rw[if_pos ∅,if_pos ∅];rfl
  simp[z,els,this]
 cases a
 .exact ⟨_,by simp[g7,g8,h1,h2,-zdE];rfl⟩
 .exact ⟨_,by simp[g7,g8,h1,h2,-zdE];rfl⟩
theorem ztV {w0 w1 w2 w4 w5 w6:O} {k:Int} {c d:PyData} {x y:O} {A B:List Int} (hl:A.length+B.length<=900):(sAsg coe (e2 (e2 (eIx (zaa 7) ↥1) (zaA coes .l (zac (zaa 3) aNil)) fAdd) (eIx (zaa 8) ↥1) fAdd) (gtN 9)) [w0,w1,w2,⇑k,w4,w5,w6,.t [.d c,zad A,x],.t [.d d,zad B,y],.z]=.nx [w0,w1,w2,⇑k,w4,w5,w6,.t [.d c,zad A,x],.t [.d d,zad B,y],zad (A++[k]++B)]:=by
 have a1:=ziv (a:=A) (b:=[k]) (by simp;omega);have a2:=ziv (a:=A++[k]) (b:=B) (by simp;omega);have g7:gIx [w0,w1,w2,⇑k,w4,w5,w6,.t [.d c,zad A,x],.t [.d d,zad B,y],.z] (.at 7 []) 1=some (.at 7 [1]):=rfl;have g8:gIx [w0,w1,w2,⇑k,w4,w5,w6,.t [.d c,zad A,x],.t [.d d,zad B,y],.z] (.at 8 []) 1=some (.at 8 [1]):=rfl;have v7:vn [w0,w1,w2,⇑k,w4,w5,w6,.t [.d c,zad A,x],.t [.d d,zad B,y],.z] (.at 7 [1])=some (zad A):=rfl;have v8:vn [w0,w1,w2,⇑k,w4,w5,w6,.t [.d c,zad A,x],.t [.d d,zad B,y],.z] (.at 8 [1])=some (zad B):=rfl;have p7:∀q,pok [w0,w1,w2,⇑k,w4,w5,w6,.t [.d c,zad A,x],.t [.d d,zad B,y],.z] q (.at 7 [1])=q:=fun q=>by simp[pok,vw,sub]
 have p8:∀q,pok [w0,w1,w2,⇑k,w4,w5,w6,.t [.d c,zad A,x],.t [.d d,zad B,y],.z] q (.at 8 [1])=q:=fun q=>by simp[pok,vw,sub]
 have a1':fAdd (zad A) (.l [⇑k])=some (zad (A++[k])):=a1;unfold zad at *;generalize (A++[k]++B).map 025=Z at *;generalize (A++[k]).map 025=Y at *;exact (zap (zal (zal (zbt rfl 09 rfl g7) (zaw 009 rfl 079 rfl) rfl rfl rfl a1') (zbt rfl 09 rfl g8) rfl rfl rfl a2) rfl rfl)
theorem zuR {N:PyData} {w1 w2 w3 w4 w5 w6 w7 w8:O} {L:Int} {os:List O} {Iw:PyData} {Fl:FC} (fo:fz (.l os)=some Iw) (h:Fl [.d N,.d Iw]=.ok ⇑L []):∃ρ',(sRet mov (zaA movs mkT (zac (zah 06 Fl (zac (zaa 0) (zac (zaa 9) aNil))) (zac (zaa 9) aNil)))) [.d N,w1,w2,w3,w4,w5,w6,w7,w8,.l os]=.rt (.t [⇑L,.l os]) ρ':=by
 have hm:mkT [⇑L,.l os]=.t [⇑L,.l os]:=rfl;exact ⟨_,by exact (zaL (zaw (zab (zaN 00 (zd4 rfl (zd4 (zgX rfl fo) rfl)) h rfl) 009 rfl) rfl 079 rfl) rfl)⟩
end By
theorem zum {n one other k:Int} {rs:List Road} {r:Road} (ok:zay n rs) (T:Taut rs) (h1:0<=one/\one < n) (h2:0<=other/\other < n) (hr:zaH rs k=some r) :
  (((∀L,¬Wk rs one r.1 L)\/(∀L,¬Wk rs r.2.1 other L))/\zcC 026=.ok 042 [])\/
  (∃W a b,Dist rs one r.1 a/\Dist rs r.2.1 other b/\BW rs one other k (a+r.2.2+b) W/\zcC 026=.ok (.t [⇑(a+r.2.2+b),zad W]) []):=by
 obtain ⟨k0,k1,_⟩:=za9 hr;obtain ⟨r1,r2,_⟩:=ok.rd r (zbp hr);have c1:(zbd (zah 01 zaF 019)) 088=.nx 088:=by
  have:=zgE ok T h1 h2 ⟨k0,k1⟩
  generalize netD n rs=Nd at *;exact (za6 (zaN 061 rfl this rfl))
 have fin:∀o ρ',zgu 088=.rt o ρ'->zcC 026=.ok o []:=fun o ρ' h=>by
  refine Eq.trans ?_ (congrArg (Rc.ok _) (zi0 ρ'));exact zgl (ms:=01) (n:=10) (S:=zgu) (os:=026) h
 have non:∀(s t:Str) (x y:List O) (a b:Bool),zaB [.d 02,⇑one,⇑r.1]=.ok (.t (.d (.str s)::x)) []->zaB [.d 02,⇑r.2.1,⇑other]=.ok (.t (.d (.str t)::y)) []->fEq false (.d (.str s)) (.d (.str "none"))=some (.d (.bool a))->fEq false (.d (.str t)) (.d (.str "none"))=some 085->(a || b)=true->zcC 026=.ok 042 []:=fun s t x y a b e1 e2 f1 f2 z=>by
  obtain ⟨q,tt⟩:=By.b_if (w0:=.d 02) (w1:=⇑one) (w2:=⇑other) (w3:=⇑k) (w4:=⇑r.1) (w5:=⇑r.2.1) (w6:=⇑r.2.2) (w9:=.z) (x:=x) (y:=y) f1 f2;rw[z] at tt;exact fin _ _ (zag c1 (zag (By.zoi hr) (zag (By.b_a e1) (zag (By.b_b e2) (zql ((zrV tt).trans (zaL rfl rfl)))))))
 rcases zde ok T h1 r1 with ⟨na,R,e1,_⟩ | ⟨A,ha,e1,la⟩
 .rcases zde ok T r2 h2 with ⟨nb,R',e2,_⟩ | ⟨B,hb,e2,lb⟩
  .exact .inl ⟨.inl na,non _ _ _ _ _ _ e1 e2 zdM zdM rfl⟩
  .exact .inl ⟨.inl na,non _ _ _ _ _ _ e1 e2 zdM zeE rfl⟩
 .rcases zde ok T r2 h2 with ⟨nb,R',e2,_⟩ | ⟨B,hb,e2,lb⟩
  .exact .inl ⟨.inr nb,non _ _ _ _ _ _ e1 e2 zeE zdM rfl⟩
  .have lA:=la.lW;have lB:=lb.lW;have bw:=zul hr la lb;refine .inr ⟨A++[k]++B,_,_,la.ds,lb.ds,bw, ?_⟩;obtain ⟨q,tt⟩:=By.b_if (w0:=.d 02) (w1:=⇑one) (w2:=⇑other) (w3:=⇑k) (w4:=⇑r.1) (w5:=⇑r.2.1) (w6:=⇑r.2.2) (w9:=.z) (x:=[zad A,zad ha]) (y:=[zad B,zad hb]) zeE zeE;have wl:=zfb (n:=n) (rs:=rs) (ws:=A++[k]++B) (by simp;omega) (zeA bw.ld);rw[bw.ln] at wl;obtain ⟨ρ',rt⟩:=By.zuR (w1:=⇑one) (w2:=⇑other) (w3:=⇑k) (w4:=⇑r.1) (w5:=⇑r.2.1) (w6:=⇑r.2.2) (w7:=.t [.d (.str "way"),zad A,zad ha]) (w8:=.t [.d (.str "way"),zad B,zad hb]) (zbK (A++[k]++B)) wl;exact fin _ _ (zag c1 (zag (By.zoi hr) (zag (By.b_a e1) (zag (By.b_b e2) (zag (ztJ tt) (zag (By.ztV ∅) rt))))))
def zqL (rs:List Road) (r:Road):Prop:=∀M,Wk rs r.2.1 r.1 M->0<=r.2.2+M
theorem Wk.more {rs:List Road} {r:Road} (hb:zqL rs r) {p q M:Int} (w:Wk (rs++[r]) p q M):(∃L,L<=M/\Wk rs p q L)\/∃A B,Wk rs p r.1 A/\Wk rs r.2.1 q B/\A+r.2.2+B<=M:=by
 induction w with
 | nil p=>exact .inl ⟨0,Int.le_refl _,.nil p⟩
 | @cons x q L hx _ ih=>
  rcases List.mem_append.mp hx with hx | hx
  .rcases ih with ⟨N,h,w⟩ | ⟨A,B,a,b,h⟩
   .exact .inl ⟨x.2.2+N,by omega,.cons hx w⟩
   .exact .inr ⟨x.2.2+A,B,.cons hx a,b,by omega⟩
  .obtain rfl:=List.mem_singleton.mp hx;rcases ih with ⟨N,h,w⟩ | ⟨A,B,a,b,h⟩
   .exact .inr ⟨0,N,.nil _,w,by omega⟩
   .have:=hb A a
    exact .inr ⟨0,B,.nil _,b,by omega⟩
theorem zkv (rs:List Road) (r:Road):∀x∈rs,x∈rs++[r]:=fun x hx=>List.mem_append_left _ hx
theorem via {rs:List Road} {r:Road} {p q A B:Int} (a:Wk rs p r.1 A) (b:Wk rs r.2.1 q B):Wk (rs++[r]) p q (A+r.2.2+B):=
 ((a.sub (zkv rs r)).trans ((Wk.one (List.mem_append_right _ (List.mem_singleton.mpr rfl))).trans (b.sub (zkv rs r)))).cast ∅
theorem zmO {rs:List Road} {r:Road} (T:Taut rs):Taut (rs++[r])↔zqL rs r:=by
 constructor
 .intro T' M w
  have:=T' _ _ (via (r:=r) (.nil r.1) w)
  omega
 .intro hb p L w;rcases w.more hb with ⟨N,h,w⟩ | ⟨A,B,a,b,h⟩
  .have:=T _ _ w;omega
  .have:=hb _ (b.trans a);omega
end My
namespace L2
open PySem PySem.Spec PyProof.Rows
def movp (ρ:Rho):Rv->Option (O×Rho)
 | .at i [k]=>match ρ[i]? with
  | some (.t os)=>match os[k]? with
   | some (.l ys)=>some (.l ys,ρ.set i (.t (os.set k .z)))
   | _=>mov ρ (.at i [k])
  | _=>mov ρ (.at i [k])
 | r=>mov ρ r
def zig (ρ:Rho):List Rv->Option (List O×Rho)
 | []=>some ([],ρ)
 | r::rs=>match movp ρ r with
  | some (o,ρ1)=>match zig ρ1 rs with
   | some (os,ρ2)=>some (o::os,ρ2)
   | none=>none
  | none=>none
section
variable {mg:Str->Option Value} {K:PySem.W.Frag} {H:Hp} {W:Addr->Prop} {σ:St} {ρ ρ':Rho} {f g:Fp}
theorem zp4 {r:Rv} {v:V} {B:List Addr} {o:O} (s:Sl mg K H W σ ρ f) (sb:∀x,Inn f x->W x) (h:RvOk mg K H W σ v r B) (hB:∀x∈B,W x/\¬Inn f x) (e:movp ρ r=some (o,ρ')) :
  ∃W' f',Sl mg K H W' σ ρ' f'/\Gv W f W' f'/\∃B',Ow mg K H W' v o B'/\B'.Nodup/\∀x∈B',(x∈B\/Inn f x)/\W' x/\¬Inn f' x:=by
 unfold movp at e;split at e
 .rename_i i k;split at e
  .rename_i os hi;split at e
   .rename_i ys hk;cases e;obtain ⟨_,u,h1,h2⟩:=h;rcases s.sl i _ hi with ⟨z,_⟩ | ⟨v',g1,g2⟩
    .cases z
    .rw[h1] at g1;cases g1
     cases g2 with
     | @t a vs _ _ nw ha tt=>
      obtain ⟨w,A,Bs,e1,e2,e3,e4⟩:=tt.lend hk;obtain ⟨a',vs',w',ea,hv,ew,ee⟩:=h2;cases ea;have hvs:vs'=vs:=by rcases hv with hv | hv<;>rw[ha] at hv<;>cases hv<;>rfl
      subst hvs;rw[e1] at ew;cases ew
      cases (show w=v from ee)
      have nd:=e4.nodup_iff.mpr (s.fam.nd i);have nd':=List.nodup_append.mp nd;have inA:∀x∈A,x∈f i:=fun x hx=>e4.subset 074
      have inB:∀x∈Bs,x∈f i:=fun x hx=>e4.subset 0011
      refine ⟨W,fset f i Bs,s.setS h1 (.t nw ha e3) nd'.2.1 (fun x hx j hj=>s.fam.ap i j (Ne.symm hj) x (inB x hx)),⟨fun _ h=>h,fun _ h=>.inr h,fun x h=>h.set.elim id fun z=>⟨i,inB x z⟩,fun x h=>sb x (h.set.elim id fun z=>⟨i,inB x z⟩)⟩,A,e2,nd'.1,fun x hx=>⟨.inr ⟨i,inA x hx⟩,sb x ⟨i,inA x hx⟩,fun ⟨j,hj⟩=>?_⟩⟩
      by_cases ej:j=i
      .subst ej;rw[zbk] at hj;exact nd'.2.2 x hx x hj rfl
      .rw[zbE ej] at hj;exact s.fam.ap j i ej x hj (inA x hx)
   .exact ziC s sb h hB e
  .exact ziC s sb h hB e
 .exact ziC s sb h hB e
theorem zku:∀{rs:List Rv} {vs:List V} {W:Addr->Prop} {ρ ρ':Rho} {f g:Fp} {os:List O},Sl mg K H W σ ρ f->(∀x,Inn f x->W x)->Rvs mg K H W σ vs rs g->(∀x,Inn g x->W x/\¬Inn f x)->zig ρ rs=some (os,ρ')->
  ∃W' f',Sl mg K H W' σ ρ' f'/\Gv W f W' f'/\∃As,Ows mg K H W' vs os As/\As.Nodup/\∀x∈As,(Inn g x\/Inn f x)/\W' x/\¬Inn f' x
 | [],vs,W,ρ,ρ',f,g,os,s,sb,h,hg,e=>by
  cases e
  cases vs with
  | nil=>exact ⟨W,f,s,.refl sb,[],.nil,List.nodup_nil,fun _ z=>nomatch z⟩
  | cons v vs=>have:=h.len;simp at this
 | r::rs,vs,W,ρ,ρ',f,g,os,s,sb,h,hg,e=>by
  obtain ⟨v,us,rfl,h0,ht⟩:=h.tail;rw[zig] at e
  cases a:movp ρ r with
  | none=>rw[a] at e;cases e
  | some z=>
   obtain ⟨o,ρ1⟩:=z;rw[a] at e;dsimp only at e
   cases b:zig ρ1 rs with
   | none=>rw[b] at e;cases e
   | some z=>
    obtain ⟨os',ρ2⟩:=z;rw[b] at e;cases e;obtain ⟨W1,f1,s1,g1,B,o1,nd1,in1⟩:=zp4 s sb h0 (fun x hx=>hg x ⟨0,hx⟩) a;have hg1:∀x,Inn g x->W1 x/\¬Inn f1 x:=fun x hx=>⟨(g1.more x (hg x hx).1).resolve_left (hg x hx).2,fun z=>(hg x hx).2 (g1.ours x z)⟩
    obtain ⟨W2,f2,s2,g2,As,o2,nd2,in2⟩:=zku s1 g1.sub (ht.weak g1.less) (fun x ⟨k,hk⟩=>hg1 x ⟨k+1,hk⟩) b;refine ⟨W2,f2,s2,g1.trans g2,B++As,.cons (o1.on (DMv.weak g2.less) fun _ _=>rfl) o2,List.nodup_append.mpr ⟨nd1,nd2,fun x hx y hy z=>?_⟩,fun x hx=>?_⟩
    .subst z;rcases (in2 x hy).1 with ⟨k,hk⟩ | q
     .rcases (in1 x hx).1 with r | r
      .exact h.fam.ap 0 (k+1) ∅ x r hk
      .exact (hg x ⟨k+1,hk⟩).2 r
     .exact (in1 x hx).2.2 q
    .rcases List.mem_append.mp hx with hx | hx
     .obtain ⟨q1,q2,q3⟩:=in1 x hx;exact ⟨q1.imp (fun z=>⟨0,z⟩) id,(g2.more x q2).resolve_left q3,fun z=>q3 (g2.ours x z)⟩
     .obtain ⟨q1,q2,q3⟩:=in2 x hx;exact ⟨q1.elim (fun ⟨k,hk⟩=>.inl ⟨k+1,hk⟩) fun z=>.inr (g1.ours x z),q2,q3⟩
theorem zlf:Take zig:=@zku
end
section
variable {mg:Str->Option Value} {K:PySem.W.Frag} {H:Hp} {W:Addr->Prop}
end
section
variable {mg:Str->Option Value} {K:PySem.W.Frag} {E:XK}
end
section
variable {X:Cx} {E:XK} {L:List Nat} {scope:Scope} {pos:Pos} {N':List Str}
end
section
variable {mg:Str->Option Value} {K:PySem.W.Frag} {E:XK}
end
section
variable {X:Cx} {E:XK} {L:List Nat} {scope:Scope} {pos:Pos} {N':List Str}
end
end L2
noncomputable section
namespace My
open PySem L2
end My
end
namespace My
open PySem L2
theorem znb {ds:List PyData} {a:Int} (h0:0<=a) (h1:a<=ds.length):fSl (.l (ds.map O.d)) none (some a)=some (.l ((ds.take a.toNat).map O.d)):=by
 have e:HT.sIx ds.length ds.length (some a)=a.toNat:=by
  show (if a < 0 then (a+(ds.length:Int)).toNat else min a.toNat ds.length)=a.toNat
  rw[if_neg ∅];omega
 have e0:HT.sIx ds.length 0 none=0:=rfl;unfold fSl;simp only[els,zd9];unfold cutD;rw[e,e0,List.drop_zero,Nat.sub_zero]
theorem zlH {ds:List PyData} {a:Int} (h0:0<=a) (h1:a<=ds.length):fSl (.l (ds.map O.d)) (some a) none=some (.l ((ds.drop a.toNat).map O.d)):=by
 have e:HT.sIx ds.length 0 (some a)=a.toNat:=by
  show (if a < 0 then (a+(ds.length:Int)).toNat else min a.toNat ds.length)=a.toNat
  rw[if_neg ∅];omega
 have e0:HT.sIx ds.length ds.length none=ds.length:=rfl;unfold fSl;simp only[els,zd9];unfold cutD;rw[e,e0]
 congr 3
 apply List.take_of_length_le;rw[List.length_drop];omega
theorem zlb {a b:List PyData} (h:a.length+b.length<=1000):fAdd (.l (a.map O.d)) (.l (b.map O.d))=some (.l ((a++b).map O.d)):=by
 have z:a.length+b.length<=sizeLine:=zbW ∅;unfold fAdd;dsimp only[els];rw[zd9,zd9];dsimp only;rw[if_pos z]
theorem zn9 (rs:List Road):zbP rs=.l ((rs.map zaG).map O.d):=by
 unfold zbP;rw[List.map_map];rfl
namespace F24
theorem zht {ds:List PyData} {a:Int} (h0:0<=a) (h1:a<=ds.length):fSl (.d 050) none (some a)=some (.l ((ds.take a.toNat).map O.d)):=znb h0 h1
theorem zf7 {ds:List PyData} {a:Int} (h0:0<=a) (h1:a<=ds.length):fSl (.d 050) (some a) none=some (.l ((ds.drop a.toNat).map O.d)):=zlH h0 h1
theorem zen {ρ:Rho} {i:Nat} {x:PyData} (h:ρ[i]? = some (.d x)):zaa i ρ=.ok (.at i []) ρ true:=by unfold zaa;rw[h]
theorem zoj {ρ:Rho} {i:Nat} {ds:List PyData} {mk:List PyData->List O} (h:ρ[i]? = some (.d 050)):srcM true mk (zaa i) ρ=.ok ((mk ds,none),true) ρ true:=by
 unfold srcM;rw[zen h];simp[zeH,cov,coe,h,sub]
theorem zge {js:List 015} {G:GF} {T:TF} {A:EF} {x o:O} {xs acc os:List O} {ρ ρ1 ρ2 ρ3 ρ4 ρ':Rho} {r:Rv} {q q2 q3 q':Bool} (hg:G x (zdp js ρ)=some ρ1) (ht:T ρ1=.ok true ρ2 q2) (ha:A ρ2=.ok r ρ3 q3) (hc:coe ρ3 r=some (o,ρ4)) (k:lcF js G T A xs (zcb js ρ4 (clrR js ρ)) (acc++[o]) (q&&q2&&q3)=.ok os ρ' q'):lcF js G T A (x::xs) ρ acc q=.ok os ρ' q':=by
 rw[lcF,hg];dsimp only;rw[ht];dsimp only;rw[if_pos rfl,ha];dsimp only;rw[hc];exact k
theorem zkj {I:Rho->Re (Src×Bool)} {js:List 015} {G:GF} {T:TF} {A:EF} {ρ ρ1 ρ2 ρ3:Rho} {items os:List O} {rs:Option (Nat×O)} {kd q1 q2:Bool} (h:I ρ=.ok ((items,rs),kd) ρ1 q1) (hl:items.length<=sizeLine) (k:lcF js G T A items ρ1 [] true=.ok os ρ2 q2) (hr:ziK rs ρ2=ρ3):eLS I js G T A ρ=.ok (.own (.l os)) ρ3 (q1&&q2):=by
 unfold eLS;rw[h];dsimp only;rw[if_pos hl,k];dsimp only;rw[hr]
end F24
end My
namespace L2
open PySem PySem.Spec PyProof.Rows
section
variable {mg:Str->Option Value} {K:PySem.W.Frag} {H H2:Hp} {W W2:Addr->Prop} {σ σ2:St} {ρ:Rho} {f f2:Fp}
end
section
variable {X:Cx} {E:XK} {L L':List Nat}
end
section
variable {mg:Str->Option Value} {K:PySem.W.Frag} {E:XK}
end
section
variable {X:Cx} {E:XK} {L:List Nat} {scope:Scope} {pos:Pos} {N':List Str}
end
end L2
noncomputable section
namespace My
open PySem L2
def zjb:SF:=(sSeq (sAsg coe (zaa 0) (gtT (zaf (gtN 2) (zaf (gtN 3) zaV))))
  (sRet coe (zaA coes mkT (zac (zaa 2) (zac (e2 (eSl (zaa 3) oNo (zcZ (zaa 1))) (eSl (zaa 3) (zcZ (e2 (zaa 1) ↥1 fAdd)) oNo) fAdd) aNil)))))
def zdi:FC:=runF 06 4 zjb
def zba:EF:=(eIf (tst (e2 (zaa 0) (zaa 1) fLt)) (zaa 0) (e2 (zaa 0) ↥1 fAdd))
def zdD:SF:=(sSeq (zbd (zah 01 zaF 019))
  (sSeq (sAsg coe (zah 05 zaB (zac (eFz (zah 06 zdi 068)) (zac (zaa 1) 058))) (gtN 4))
  (sSeq 083
  (sSeq (sAsg coe (eLS (srcM true 001 090) [none,some 3] (gtN 0) 055 zba) (gtN 5))
  077))))
def zaS:FC:=runF 01 6 zdD
def zgM:SF:=(sRet coe (zaA coes mkT (zac 069 (zac (e2 (eSl 059 oNo (zcZ (zaa 1))) (eSl 059 (zcZ (e2 (zaa 1) ↥1 fAdd)) oNo) fAdd) aNil))))
def zea:FC:=runF 06 2 zgM
end My
end
namespace My
open PySem L2
namespace F29
theorem znn {A:EF} {L U:Rho->Re 08} {ρ ρ1 ρ2 ρ3:Rho} {ra:Rv} {q1 q2 q3:Bool} {l u:Option Int} {o z:O} (h:A ρ=.ok ra ρ1 q1) (hl:L ρ1=.ok l ρ2 q2) (hu:U ρ2=.ok u ρ3 q3) (p:pok ρ1 (q2&&(q3&&true)) ra=true) (hv:vn ρ3 ra=some o) (hf:fSl o l u=some z) :
  eSl A L U ρ=.ok (.own z) ρ3 (q1&&(q2&&(q3&&true))):=by
 unfold eSl;rw[h];dsimp only[Re.bind];rw[zbX hl (zbX hu rfl)];dsimp only;rw[if_pos p,hv];dsimp only;rw[hf]
theorem zhL {A:EF} {ρ ρ1:Rho} {q:Bool} {i:Int} (h:eSc decI A ρ=.ok i ρ1 q):zcZ A ρ=.ok (some i) ρ1 (q&&true):=zbX h rfl
theorem zne {A:EF} {ρ ρ1:Rho} {q:Bool} {o:O} {x:PyData} (h:A ρ=.ok (.own o) ρ1 q) (f:fz o=some x):eFz A ρ=.ok (.own (.d x)) ρ1 q:=by unfold eFz;rw[h];dsimp only;rw[f]
def zaO (rs:List Road) (k:Nat):List Road:=rs.take k++rs.drop (k+1)
theorem ze5 {rs:List Road} {k:Nat} {r:Road} (h:r∈zaO rs k):r∈rs:=(List.mem_append.mp h).elim List.mem_of_mem_take List.mem_of_mem_drop
theorem zfc {n:Int} {rs:List Road} (ok:zay n rs) (k:Nat):zay n (zaO rs k):=⟨ok.n0,ok.n1,by have:=ok.len;unfold zaO;simp;omega,fun r hr=>ok.rd r (ze5 hr)⟩
theorem zdN {rs:List Road} (T:Taut rs) (k:Nat):Taut (zaO rs k):=fun p L w=>T p L (w.sub fun r hr=>ze5 hr)
theorem zs3 {n:Int} {rs:List Road} {a:Int} (a0:0<=a):netO n (zaO rs a.toNat)=.t [⇑n,.l (((rs.map zaG).take a.toNat++(rs.map zaG).drop (a+1).toNat).map O.d)]:=by
 unfold netO;rw[zn9];unfold zaO
 have:(a+1).toNat=a.toNat+1:=by omega
 rw[this,List.map_append,List.map_take,List.map_drop]
section
variable {n k:Int} {ds:List PyData} {as bs cs:List O}
theorem zs2 (s1:fSl (.d 050) none (some k)=some (.l as)) (s2:fSl (.d 050) (some (k+1)) none=some (.l bs)) (ad:fAdd (.l as) (.l bs)=some (.l cs)):zdi [.d (.tuple [.int n,.list ds]),⇑k]=.ok (.t [⇑n,.l cs]) []:=
 zaY rfl (zag (zap rfl rfl rfl) (zaL (zaw (zab rfl (zab (zal (znn rfl rfl (zhL 09) rfl rfl s1) (znn rfl (zhL (zaC 04 rfl rfl)) rfl rfl rfl s2) rfl rfl rfl ad) rfl rfl) rfl) rfl 079 rfl) rfl)) rfl
theorem zp1 (s1:fSl (.d 050) none (some k)=some (.l as)) (s2:fSl (.d 050) (some (k+1)) none=some (.l bs)) (ad:fAdd (.l as) (.l bs)=some (.l cs)):zea [.d (.tuple [.int n,.list ds]),⇑k]=.ok (.t [⇑n,.l cs]) []:=
 zaY rfl (zaL (zaw (zab 038 (zab (zal (znn 038 rfl (zhL 09) rfl rfl s1) (znn 038 (zhL (zaC 04 rfl rfl)) rfl rfl rfl s2) rfl rfl rfl ad) rfl rfl) rfl) rfl 079 rfl) rfl) rfl
end
theorem zlX {n k:Int} {rs:List Road} (hl:rs.length<=60) (hk:0<=k/\k < rs.length):zdi [.d 02,⇑k]=.ok (netO n 062) []/\zea [.d 02,⇑k]=.ok (netO n 062) []:=by
 have rl:(rs.map zaG).length=rs.length:=by simp
 have s1:=F24.zht (ds:=rs.map zaG) (a:=k) hk.1 (by rw[rl];omega);have s2:=F24.zf7 (ds:=rs.map zaG) (a:=k+1) ∅ (by rw[rl];omega);have ad:fAdd (.l (((rs.map zaG).take k.toNat).map O.d)) (.l (((rs.map zaG).drop (k+1).toNat).map O.d))=some (.l (((rs.map zaG).take k.toNat++(rs.map zaG).drop (k+1).toNat).map O.d)):=by
  have z:((rs.map zaG).take k.toNat).length+((rs.map zaG).drop (k+1).toNat).length<=sizeLine:=zbW (by simp;omega);unfold fAdd;dsimp only[els];rw[zd9,zd9];dsimp only;rw[if_pos z,List.map_append]
 rw[zs3 hk.1];unfold netD zar;exact ⟨zs2 s1 s2 ad,zp1 s1 s2 ad⟩
def up (k x:Int):Int:=if x < k then x else x+1
def onI (f:Int->Int):O->O
 | ⇑x=>⇑(f x)
 | o=>o
theorem zpJ (f:Int->Int) (W:List Int):((W.map PyData.int).map O.d).map (onI f)=(W.map f).map fun h=>O.d (.int h):=by
 rw[List.map_map,List.map_map,List.map_map];rfl
theorem zdn (xs:List O):(xs.filter fun _=>true)=xs:=List.filter_eq_self.mpr fun _ _=>rfl
theorem zrO {w0 w1 w2 y:O} {k:Int} {s:Str} {W:List Int} (hl:W.length<=1000) :
  ∃q,eLS (srcM true 001 090) [none,some 3] (gtN 0) 055 zba [w0,w1,w2,⇑k,.t 0018,.z]=.ok (.own (zad (W.map (up k)))) [w0,w1,w2,⇑k,.t 0018,.z] q:=by
 obtain ⟨q,e⟩:=zds (js:=[none,some 3]) (G:=gtN 0) (T:=gRet true) (A:=zba) (ρ:=[w0,w1,w2,⇑k,.z,.z]) (fun _=>true) (onI (up k)) (items:=(W.map PyData.int).map O.d) (acc:=[]) (q:=true) (fun o ho=>by
  rw[List.map_map] at ho;obtain ⟨x,hx,rfl⟩:=List.mem_map.mp ho;refine ⟨[⇑x,⇑k],[⇑x,⇑k],true,rfl,rfl,(fun _=>?_),(fun h=>by cases h)⟩;unfold zba
  by_cases c:x < k
  .exact ⟨.at 0 [],[⇑x,⇑k],true,[⇑x,⇑k],by simp[c],by simp[onI,up,c],rfl⟩
  .exact ⟨.own ⇑(x+1),[⇑x,⇑k],true,[⇑x,⇑k],by simp[c],by simp[onI,up,c],rfl⟩)
 rw[zdn,List.nil_append,zpJ] at e;have hm:W.map (fun r=>O.d (.int r))=(W.map PyData.int).map O.d:=by rw[List.map_map];rfl
 have g1:gIx [w0,w1,w2,⇑k,.t 0018,.z] (.at 4 []) 1=some (.at 4 [1]):=rfl;have vp:zeH [w0,w1,w2,⇑k,.t 0018,.z] (.at 4 [1])=some (W.map PyData.int,true,4,.t 0018):=by
  unfold zad;rw[hm];simp[zeH,sub,-List.map_map]
 have hx:eIx (zaa 4) ↥1 [w0,w1,w2,⇑k,.t 0018,.z]=.ok (.at 4 [1]) [w0,w1,w2,⇑k,.t 0018,.z] (true&&true):=zbt rfl 09 rfl g1;have sr:srcM true 001 090 [w0,w1,w2,⇑k,.t 0018,.z]=.ok (((W.map PyData.int).map O.d,some (4,.t 0018)),true) [w0,w1,w2,⇑k,.z,.z] true:=by
  unfold srcM;rw[hx];dsimp only[Re.bind];rw[vp];rfl
 exact ⟨_,F24.zkj sr (zbW (by simp;omega)) e rfl⟩
theorem zi0 (ρ:Rho):zcu 01 ρ=[]:=by
 rcases ρ with _ | ⟨a,_ | ⟨b,_ | ⟨c,_ | ⟨d,e⟩⟩⟩⟩<;>rfl
section
variable {N S:PyData} {p q k:Int} {so os hs us:List O} {Fc Fs Fl:FC} {t:Bool}
theorem zpU (ec:Fc [.d N,⇑p,⇑q,⇑k]=.ok 042 []) (es:Fs [.d N,⇑k]=.ok (.t so) []) (fs:fz (.t so)=some S) (el:Fl [.d S,⇑p,⇑q]=.ok (.t [.d (.str "none"),.l os]) []) :
  ∃ρ',(sSeq (zbd (zah 01 Fc 019))
  (sSeq (sAsg coe (zah 05 Fl (zac (eFz (zah 06 Fs 068)) (zac (zaa 1) 058))) (gtN 4))
  (sSeq 083
  (sSeq (sAsg coe (eLS (srcM true 001 090) [none,some 3] (gtN 0) 055 zba) (gtN 5))
  077)))) [.d N,⇑p,⇑q,⇑k,.z,.z]=.rt (.t [.d (.str "none"),.l os]) ρ':=
 ⟨_,zag (za6 (zaN 061 rfl ec rfl)) (zag (zap (zaI (zab (zne (zaI 00 rfl es rfl rfl) fs) 00 rfl) rfl el rfl rfl) rfl rfl) (zdQ (if_t (zaq (zal 038 rfl rfl rfl rfl zdM) rfl) (zaL rfl rfl))))⟩
theorem zsC (ec:Fc [.d N,⇑p,⇑q,⇑k]=.ok 042 []) (es:Fs [.d N,⇑k]=.ok (.t so) []) (fs:fz (.t so)=some S) (el:Fl [.d S,⇑p,⇑q]=.ok (.t [.d (.str "way"),.l os,.l hs]) [])
  (eu:eLS (srcM true 001 090) [none,some 3] (gtN 0) 055 zba [.d N,⇑p,⇑q,⇑k,.t [.d (.str "way"),.l os,.l hs],.z]=.ok (.own (.l us)) [.d N,⇑p,⇑q,⇑k,.t [.d (.str "way"),.l os,.l hs],.z] t) :
  ∃ρ',(sSeq (zbd (zah 01 Fc 019))
  (sSeq (sAsg coe (zah 05 Fl (zac (eFz (zah 06 Fs 068)) (zac (zaa 1) 058))) (gtN 4))
  (sSeq 083
  (sSeq (sAsg coe (eLS (srcM true 001 090) [none,some 3] (gtN 0) 055 zba) (gtN 5))
  077)))) [.d N,⇑p,⇑q,⇑k,.z,.z]=.rt (.t [.d (.str "way"),.l us,.l hs]) ρ':=
 ⟨_,zag (za6 (zaN 061 rfl ec rfl)) (zag (zap (zaI (zab (zne (zaI 00 rfl es rfl rfl) fs) 00 rfl) rfl el rfl rfl) rfl rfl) (zag (if_f (zaq (zal 038 rfl rfl rfl rfl zeE) rfl) rfl) (zag (zap eu rfl rfl) (zaL (zaw (zab rfl (zab rfl (zab 038 rfl rfl) rfl) rfl) rfl 079 rfl) rfl))))⟩
end
theorem zkK {n one other k:Int} {rs:List Road} (ok:zay n rs) (T:Taut rs) (h1:0<=one/\one < n) (h2:0<=other/\other < n) (hk:0<=k/\k < rs.length) :
  ((∀L,¬Wk 062 one other L)/\∃R,zaS 026=.ok (.t [.d (.str "none"),zad (zdq R)]) []/\Rch n 062 one R)\/
  (∃W hs,zaS 026=.ok (.t [.d (.str "way"),zad (W.map (up k)),zad hs]) []/\LW n 062 one other W hs):=by
 have ec:=zgE ok T h1 h2 hk;have es:=(zlX (n:=n) ok.len hk).1;have fs:=zoO n 062;have fin:∀o ρ',zdD [.d 02,⇑one,⇑other,⇑k,.z,.z]=.rt o ρ'->zaS 026=.ok o []:=fun o ρ' h=>by
  refine Eq.trans ?_ (congrArg (Rc.ok _) (zi0 ρ'));exact zgl (ms:=01) (n:=6) (S:=zdD) (os:=026) h
 rcases zde (zfc ok k.toNat) (zdN T k.toNat) h1 h2 with ⟨no,R,e,hR⟩ | ⟨W,hs,e,lw⟩
 .unfold netO zad at *;obtain ⟨ρ',h⟩:=zpU ec es fs e;exact .inl ⟨no,R,fin _ ρ' h,hR⟩
 .obtain ⟨t,eu⟩:=zrO (w0:=.d 02) (w1:=⇑one) (w2:=⇑other) (y:=zad hs) (k:=k) (s:="way") (W:=W) (by have:=lw.lW;omega);unfold netO zad at *;obtain ⟨ρ',h⟩:=zsC ec es fs e eu;exact .inr ⟨W,hs,fin _ ρ' h,lw⟩
section
variable {N:PyData} {p q:Int} {to:List O} {Ft Fr Fw Fi Fo Fl Fh:FC} {c L x y:Int}
end
end F29
def byC (c:Option Int) (l:Int) (d:Option Int):Option Int:=match c,d with
 | some a,some b=>some (a+l+b)
 | _,_=>none
theorem zh8 (c:Option Int):oD c=optD c:=by cases c<;>rfl
theorem zgI (r:List 08):fIn false 042 (.d (rowD r))=some (.d (.bool (decide (none∈r)))):=by
 have h:=zkG r;unfold rowD at h ⊢;unfold fIn;rw[fz_d,fz_d];dsimp only;rw[h,zn0];exact rfl
theorem zsl (c d:Option Int) (l:Int):zaJ [.l [.d (oD c),⇑l,.d (oD d)]]=.ok (.d (oD (byC c l d))) []:=by
 have fzr:fz (.l [.d (oD c),⇑l,.d (oD d)])=some (rowD [c,some l,d]):=by rw[zh8,zh8];rfl
 have fi:fIn false 042 (.l [.d (oD c),⇑l,.d (oD d)])=some (.d (.bool (decide (none∈[c,some l,d])))):=by
  rw[<-zgI [c,some l,d]];unfold fIn;rw[fzr,fz_d (rowD [c,some l,d])]
 unfold zaJ zeO
 cases c with
 | none=>
  have z:decide (none∈[none,some l,d])=true:=by simp
  rw[z] at fi;generalize [O.d (oD none),⇑l,.d (oD d)]=R at *;exact (zaY rfl (zdQ (if_t 027 (zaL rfl rfl))) rfl)
 | some a=>cases d with
  | none=>
   have z:decide (none∈[some a,some l,none])=true:=by simp
   rw[z] at fi;generalize [O.d (oD (some a)),⇑l,.d (oD none)]=R at *;exact (zaY rfl (zdQ (if_t 027 (zaL rfl rfl))) rfl)
  | some b=>
   have z:decide (none∈[some a,some l,some b])=false:=by simp
   have zs:fSum (.l [.d (oD (some a)),⇑l,.d (oD (some b))])=some ⇑(a+l+b):=by
    have:zsOf (.l [.d (oD (some a)),⇑l,.d (oD (some b))])=some [a,l,b]:=rfl
    unfold fSum;rw[this];simp;omega
   rw[z] at fi;generalize [O.d (oD (some a)),⇑l,.d (oD (some b))]=R at *;exact (zaY rfl (zag (if_f 027 rfl) (zaL (zgT 009 rfl zs) rfl)) rfl)
namespace K28
end K28
end My
namespace L2
open PySem PySem.Spec PyProof.Rows
section
variable {mg:Str->Option Value} {K:PySem.W.Frag} {E:XK} {L:List Nat}
end
section
variable {X:Cx} {E:XK} {L:List Nat}
end
section
variable {mg:Str->Option Value} {K:PySem.W.Frag} {H H2:Hp} {W W2:Addr->Prop} {σ:St} {ρ:Rho} {f f2:Fp}
end
end L2
noncomputable section
namespace My
open PySem L2
def zeP:SF:=(sIf (tst (e2 (zah [false] zaJ (zac 048 aNil)) (zaa 4) (fEq false))) (zbd (eApp (zaa 5) (zaa 6))) sNil)
def zel:SF:=(sSeq (zbd (zah 05 zat 07))
  (sSeq (sAsg coe (zah [false] zbi 030) (gtN 3))
  (sSeq (sAsg coe (eIx (eIx (zaa 3) (zaa 1)) (zaa 2)) (gtN 4))
  (sSeq (sIf (tst (e2 (zaa 4) 013 (fIs false))) (sRet mov (zaA movs .l aNil)) sNil)
  (sSeq (sAsg coe (zaA coes .l aNil) (gtN 5))
  (sSeq (sFor (itE 059) (gtT (zaf (gtN 6) (zaf (gtT (zaf (gtN 7) (zaf (gtN 8) (zaf (gtN 9) zaV)))) zaV))) zeP)
  (sRet mov (zaa 5))))))))
def zcw:FC:=runF 05 10 zel
def zc1:SF:=(sSeq (sAsg coe (eIx (zah 06 zaM (zac (eFz (zah 06 zdi (zac (zaa 0) (zac (zaa 6) aNil)))) 047)) (zaa 2)) (gtN 7))
  (sIf (tst (e2 (zaa 7) 013 (fIs false))) (zbd (eApp (zaa 5) (zaA coes mkT (zac (zaa 6) (zac 013 aNil))))) (sIf (tst (e2 (zaa 7) (zaa 4) fGt)) (zbd (eApp (zaa 5) (zaA coes mkT (zac (zaa 6) (zac (e2 (zaa 7) (zaa 4) fSub) aNil))))) sNil)))
def zdy:SF:=(sSeq (sAsg coe (zah 05 zcw 07) (gtN 3))
  (sSeq (sAsg coe (eIx (zah 06 zaM 006) (zaa 2)) (gtN 4))
  (sSeq (sAsg coe (zaA coes .l aNil) (gtN 5))
  (sSeq (zfD (srcM false 001 (zaa 3)) (gtN 6) zc1)
  (sRet mov (zaa 5))))))
def zbT:FC:=runF 05 8 zdy
def zew:EF:=(zaa 0)
def zhH:SF:=(sRet coe (eLS (srcM false 001 (zah 05 zbT 07)) [none,none] (gtT 024) 055 zew))
def zc8:FC:=runF 05 3 zhH
end My
end
namespace My
open PySem L2
namespace F30
def cel (n:Int) (rs:List Road) (p q:Int):Option Int:=cell 03 p.toNat q.toNat
def zaW (n:Int) (rs:List Road) (one other:Int) (i:Nat):Bool:=match rs[i]? with
 | some r=>decide (byC (cel n rs one r.1) r.2.2 (cel n rs r.2.1 other)=cel n rs one other)
 | none=>false
def zaQ (n:Int) (rs:List Road) (one other:Int) (m:Nat):List Int:=((List.range m).filter (zaW n rs one other)).map fun i:Nat=>(i:Int)
def zav (n:Int) (rs:List Road) (one other:Int):List Int:=if cel n rs one other=none then [] else zaQ n rs one other rs.length
theorem zi2 {n:Int} {rs:List Road} {one other:Int} {i:Nat}:zaQ n rs one other (i+1)=if zaW n rs one other i=true then zaQ n rs one other i++[(i:Int)] else zaQ n rs one other i:=by
 unfold zaQ;rw[List.range_succ,List.filter_append,List.map_append]
 cases h:zaW n rs one other i<;>simp[h]
theorem zha (n:Int) (rs:List Road) (one other:Int) (m:Nat):(zaQ n rs one other m).length<=m:=by
 unfold zaQ;rw[List.length_map];exact Nat.le_trans (List.length_filter_le _ _) (by simp)
theorem zls (a b:Option Int):fEq false (.d (oD a)) (.d (oD b))=some (.d (.bool (decide (a=b)))):=by
 cases a with
 | none=>cases b<;>simp[oD,fEq,SeqAt.shaped,PyData.canLay0,PyData.depth,PyData.eqv]
 | some a=>cases b with
  | none=>simp[oD,fEq,SeqAt.shaped,PyData.canLay0,PyData.depth,PyData.eqv]
  | some b=>
   have:=zof a b
   simp only[oD,this,Option.some.injEq]
   by_cases h:a=b<;>simp[h]
theorem zfB (z:Option Int):scl (.d (oD z))=true:=by cases z<;>rfl
theorem zse (xs:List Int) (k:Int):(xs.map fun h=>O.d (.int h))++[O.d (.int k)]=(xs++[k]).map fun h=>O.d (.int h):=by simp
section
variable {w0:O} {N Tb x y:PyData} {p q k:Int} {os:List O} {Fb:FC} {b:Bool}
end
theorem zpp {n:Int} {rs:List Road} {ρ:Rho} (h:ρ[0]? = some (.d 02)):eB (zac 059 aNil) (f1 fLen) ρ=.ok (.own ⇑(rs.length:Int)) ρ true:=by
 have gn:=zjY (n:=n) (rs:=rs) (ρ:=ρ) (j:=0) h;have fl:fLen (.d (zar rs))=some ⇑(rs.length:Int):=by
  unfold zar;simp[fLen,els]
 have hn:zaa 0 ρ=.ok (.at 0 []) ρ true:=by unfold zaa;rw[h]
 have hi:eIx (zaa 0) ↥1 ρ=.ok (.own (.d (zar rs))) ρ (true&&true):=zbt hn 09 (by simp[pok]) gn;exact zgT (zab hi rfl rfl) rfl fl
section
variable {N:PyData} {c d l x y:PyData} {p q k u v:Int} {to os:List O} {Fs:FC} {b:Bool}
theorem zss (d1:eIx (eIx (zaa 3) (zaa 1)) (zaa 7) 043=.ok (.own (.d c)) 043 true)
  (d2:eIx (eIx (zaa 3) (zaa 8)) (zaa 2) 043=.ok (.own (.d d)) 043 true)
  (su:Fs [.l [.d c,.d l,.d d]]=.ok (.d x) []) (sc:scl (.d x)=true) (fe:fEq false (.d x) (.d y)=some 085) (hl:os.length < sizeLine) :
  (sIf (tst (e2 (zah [false] Fs (zac 048 aNil)) (zaa 4) (fEq false))) (zbd (eApp (zaa 5) (zaa 6))) sNil) 043=.nx [.d N,⇑p,⇑q,.l to,.d y,.l (if b then os++[⇑k] else os),⇑k,⇑u,⇑v,.d l]:=by
 have cl:=zaN (ms:=[false]) (AA:=zac 048 aNil) (ρ:=043) (zab (zaw (zab d1 (zab rfl (zab d2 rfl rfl) rfl) rfl) rfl 079 rfl) rfl rfl) rfl su (by simp[sc])
 cases b with
 | true=>exact if_t (zaq (zal cl rfl rfl rfl rfl fe) rfl) (za6 (zeK rfl rfl rfl rfl rfl (zcj rfl hl)))
 | false=>exact if_f (zaq (zal cl rfl rfl rfl rfl fe) rfl) rfl
end
theorem zrM {n:Int} {rs:List Road} {ρ:Rho} (h:ρ[0]? = some (.d 02)):itE 059 ρ=.ok (zcy 0 (rs.map zaG)) ρ true:=by
 have gn:=zjY (n:=n) (rs:=rs) (ρ:=ρ) (j:=0) h;have hn:zaa 0 ρ=.ok (.at 0 []) ρ true:=by unfold zaa;rw[h]
 have hi:eIx (zaa 0) ↥1 ρ=.ok (.own (.d (zar rs))) ρ (true&&true):=zbt hn 09 (by simp[pok]) gn;unfold itE;rw[hi];rfl
theorem zjy {n one other:Int} {rs:List Road} (ok:zay n rs) (T:Taut rs) (h1:0<=one/\one < n) (h2:0<=other/\other < n) :
  zcw 036=.ok (zad 029) []:=by
 have n1:=ok.n1;have rl:=ok.len;have sh:=zeh n.toNat rs;have cq:=za2 ok h1 h2;have tq:=ze8 ok T;have rd:=fun w4 w5 w6 w7 w8 w9=>zje (ρ:=[.d 02,⇑one,⇑other,tabO 03,w4,w5,w6,w7,w8,w9]) (k:=3) (a:=1) (b:=2) sh rfl rfl rfl (i:=one) (j:=other) ∅ ∅
 have zlL:∀ρ:Rho,zcu 05 ρ=[]:=fun ρ=>by rcases ρ with _ | ⟨a,_ | ⟨b,_ | ⟨c,d⟩⟩⟩<;>rfl
 have fin:∀o ρ',zel [.d 02,⇑one,⇑other,.z,.z,.z,.z,.z,.z,.z]=.rt o ρ'->zcw 036=.ok o []:=fun o ρ' h=>by
  refine Eq.trans ?_ (congrArg (Rc.ok _) (zlL ρ'));exact zgl (ms:=05) (n:=10) (S:=zel) (os:=036) h
 obtain ⟨c,hc⟩:∃c,cel n rs one other=c:=⟨_,rfl⟩;have hc':cell 03 one.toNat other.toNat=c:=hc;have rd0:=rd .z .z .z .z .z .z;rw[hc'] at rd0
 cases c with
 | none=>
  have e:zav n rs one other=[]:=if_pos hc;rw[e];unfold tabO at *;generalize netD n rs=Nd at *;generalize (zao n.toNat rs).map rowO=Tb at *;exact fin _ _ (zag (za6 (zaN 008 rfl cq rfl)) (zag (zap (zaI 009 rfl tq rfl rfl) rfl rfl) (zag (zap rd0 rfl rfl) (zdQ (if_t 0019 (zaL 040 rfl))))))
 | some s=>
  have e:zav n rs one other=zaQ n rs one other rs.length:=if_neg (by rw[hc];simp);rw[e];obtain ⟨ρ',st,z6,z7,z8,z9,rfl⟩:=zbZ (G:=gtT (zaf (gtN 6) (zaf (gtT (zaf (gtN 7) (zaf (gtN 8) (zaf (gtN 9) zaV)))) zaV))) (S:=zeP) (items:=zcy 0 (rs.map zaG)) (ρ:=[.d 02,⇑one,⇑other,tabO 03,⇑s,zad [],.z,.z,.z,.z])
   (fun i ρ=>∃z6 z7 z8 z9,ρ=[.d 02,⇑one,⇑other,tabO 03,⇑s,zad (zaQ n rs one other i),z6,z7,z8,z9]) ⟨_,_,_,_,rfl⟩
   (fun i x ρ hx h=>by
    obtain ⟨z6,z7,z8,z9,e⟩:=h;subst e;obtain ⟨d,hd,rfl⟩:=zcT hx;rw[List.getElem?_map] at hd;obtain ⟨r,hi',rfl⟩:=Option.map_eq_some_iff.mp hd;have hi:i < rs.length:=(List.getElem?_eq_some_iff.mp hi').1;obtain ⟨r1,r2,_⟩:=ok.rd r (List.mem_of_getElem? hi');have tl:=zha n rs one other i;have fe:=zls (byC (cel n rs one r.1) r.2.2 (cel n rs r.2.1 other)) (some s);have su:=zsl (cel n rs one r.1) (cel n rs r.2.1 other) r.2.2;have tb:zaW n rs one other i=decide (byC (cel n rs one r.1) r.2.2 (cel n rs r.2.1 other)=some s):=by
     unfold zaW;rw[hi',hc]
    have d1:=zje (ρ:=[.d 02,⇑one,⇑other,tabO 03,⇑s,zad (zaQ n rs one other i),⇑((0+i:Nat):Int),⇑r.1,⇑r.2.1,⇑r.2.2]) (k:=3) (a:=1) (b:=7) sh rfl rfl rfl (i:=one) (j:=r.1) ∅ ∅;have d2:=zje (ρ:=[.d 02,⇑one,⇑other,tabO 03,⇑s,zad (zaQ n rs one other i),⇑((0+i:Nat):Int),⇑r.1,⇑r.2.1,⇑r.2.2]) (k:=3) (a:=8) (b:=2) sh rfl rfl rfl (i:=r.2.1) (j:=other) ∅ ∅;rw[zgY] at d1 d2;have stp:=zss d1 d2 su (zfB _) fe (zej (by simp;omega));refine ⟨_,_,rfl,stp,⇑((0+i:Nat):Int),⇑r.1,⇑r.2.1,⇑r.2.2, ?_⟩;rw[zi2,tb];have z0:((0+i:Nat):Int)=i:=by omega
    rw[z0];unfold zad tabO;split
    .rw[zse]
    .rfl)
  rw[zcR,List.length_map] at st;have it:=fun w1 w2 w3 w4 w5 w6 w7 w8 w9=>zrM (n:=n) (rs:=rs) (ρ:=[.d 02,w1,w2,w3,w4,w5,w6,w7,w8,w9]) rfl
  unfold tabO at *;generalize netD n rs=Nd at *;generalize (zao n.toNat rs).map rowO=Tb at *;exact fin _ _ (zag (za6 (zaN 008 rfl cq rfl)) (zag (zap (zaI 009 rfl tq rfl rfl) rfl rfl) (zag (zap rd0 rfl rfl) (zag (if_f 0019 rfl) (zag (zap 040 rfl rfl) (zag (zgR (it _ _ _ _ _ _ _ _ _) st) (zaL rfl rfl)))))))
def detE (n:Int) (rs:List Road) (one other s k:Int):List (Int×Option Int):=match cel n (F29.zaO rs k.toNat) one other with
 | none=>[(k,none)]
 | some a=>if s < a then [(k,some (a - s))] else []
def detL (n:Int) (rs:List Road) (one other:Int):List (Int×Option Int):=match cel n rs one other with
 | none=>[]
 | some s=>(zav n rs one other).flatMap (detE n rs one other s)
def detD (x:Int×Option Int):PyData:=.tuple [.int x.1,oD x.2]
def detO (xs:List (Int×Option Int)):List O:=xs.map fun x=>.d (detD x)
theorem znJ (n:Int) (rs:List Road) (one other s k:Int):(detE n rs one other s k).length<=1:=by
 unfold detE;split
 .simp
 .split<;>simp
theorem zhT {A:EF} {ρ:Rho} {q:Bool} {o:O} {ds:List PyData} {mk:List PyData->List O} (h:A ρ=.ok (.own o) ρ q) (f:fz o=some 050):srcM false mk A ρ=.ok ((mk ds,none),true) ρ q:=by
 unfold srcM;rw[h];simp[Re.bind,zeH,cov,coe,f]
section
variable {N Tb S x:PyData} {p q k a s:Int} {to ro so os:List O} {z6:O} {Fs Ft:FC}
end
theorem zhZ {n one other k:Int} {rs:List Road} (h:k∈zav n rs one other):0<=k/\k < rs.length:=by
 unfold zav at h;split at h
 .cases h
 .unfold zaQ at h;obtain ⟨i,hi,rfl⟩:=List.mem_map.mp h
  have:=List.mem_range.mp (List.mem_filter.mp hi).1
  omega
theorem zhl (n:Int) (rs:List Road) (one other s:Int):∀ks:List Int,(ks.flatMap (detE n rs one other s)).length<=ks.length
 | []=>Nat.le_refl _
 | k::ks=>by
  have:=zhl n rs one other s ks
  have:=znJ n rs one other s k
  rw[List.flatMap_cons,List.length_append,List.length_cons];omega
theorem znG {n one other s:Int} {rs:List Road} {ks:List Int} {i:Nat} {k:Int} (h:ks[i]? = some k):detO ((ks.take (i+1)).flatMap (detE n rs one other s))=detO ((ks.take i).flatMap (detE n rs one other s))++detO (detE n rs one other s k):=by
 unfold detO;rw[List.take_succ,h,List.flatMap_append,List.map_append];simp
theorem zg1 {n one other:Int} {rs:List Road}:(zav n rs one other).length<=rs.length:=by
 unfold zav;split
 .simp
 .exact zha _ _ _ _ _
theorem zeB {I:Rho->Re (Src×Bool)} {G:GF} {S:SF} {ρ ρ1:Rho} {items:List O} {r:Option (Nat×O)} {kd q:Bool} {R:Rt} (h:I ρ=.ok ((items,r),kd) ρ1 q) (k:forF G S items ρ1=R):zfD I G S ρ=R:=by
 unfold zfD;rw[h];exact k
theorem zkn {n one other:Int} {rs:List Road} (h2:0<=other/\other < n) (ρ:Rho):gIx ρ (.own (fnO (eO (tC n rs one)) n.toNat)) other=some (.own (.d (oD (cel n rs one other)))):=by
 have e:(List.range n.toNat)[other.toNat]? = some other.toNat:=List.getElem?_range ∅;have z:((other.toNat:Nat):Int)=other:=by omega
 rw[zcK];unfold fnO eO;have ix:ixN n.toNat other=some other.toNat:=by unfold ixN;rw[if_pos h2.1,if_pos ∅]
 simp[els,ix,ze0,e];rw[show (max other 0:Int)=other by omega]<;>(unfold tC cel;cases cell 03 one.toNat other.toNat<;>rfl)
section
variable {N S x:PyData} {p q k a s:Int} {so to os:List O} {y3 y z7:O} {Fs Fl:FC}
theorem zr7 (es:Fs [.d N,⇑k]=.ok (.t so) []) (fs:fz (.t so)=some S) (lf:Fl [.d S,⇑p]=.ok (.l to) []) (g:∀ρ:Rho,gIx ρ (.own (.l to)) q=some (.own (.d x))) :
  (sAsg coe (eIx (zah 06 Fl (zac (eFz (zah 06 Fs (zac (zaa 0) (zac (zaa 6) aNil)))) 047)) (zaa 2)) (gtN 7)) [.d N,⇑p,⇑q,y3,y,.l os,⇑k,z7]=.nx [.d N,⇑p,⇑q,y3,y,.l os,⇑k,.d x]:=
 zap (zbt (zaI (zab (F29.zne (zaI 00 rfl es rfl rfl) fs) 009 rfl) rfl lf rfl rfl) 09 rfl (g _)) rfl rfl
theorem zru (hl:os.length < sizeLine) {R:SF}:(sIf (tst (e2 (zaa 7) 013 (fIs false))) (zbd (eApp (zaa 5) (zaA coes mkT (zac (zaa 6) (zac 013 aNil))))) R) [.d N,⇑p,⇑q,y3,⇑s,.l os,⇑k,.d .none]=.nx [.d N,⇑p,⇑q,y3,⇑s,.l (os++[.d (.tuple [.int k,.none])]),⇑k,.d .none]:=
 if_t 0019 (za6 (zeK rfl rfl (zaw 00 rfl 079 (show mkT [⇑k,.d .none]=_ from rfl)) rfl rfl (zcj rfl hl)))
theorem zsa (hl:os.length < sizeLine) (c:s < a) {P:SF} :
  (sIf (tst (e2 (zaa 7) 013 (fIs false))) P (sIf (tst (e2 (zaa 7) (zaa 4) fGt)) (zbd (eApp (zaa 5) (zaA coes mkT (zac (zaa 6) (zac (e2 (zaa 7) (zaa 4) fSub) aNil))))) sNil)) [.d N,⇑p,⇑q,y3,⇑s,.l os,⇑k,⇑a]=.nx [.d N,⇑p,⇑q,y3,⇑s,.l (os++[.d (.tuple [.int k,.int (a - s)])]),⇑k,⇑a]:=by
 have gt:fGt ⇑a ⇑s=some 037:=by simp[c]
 exact if_f 0019 (if_t (zaq (zal rfl rfl rfl rfl rfl gt) rfl) (za6 (zeK rfl rfl (zaw (zab rfl (zab 04 rfl rfl) rfl) rfl 079 (show mkT [⇑k,⇑(a - s)]=_ from rfl)) rfl rfl (zcj rfl hl))))
theorem zuW (c:¬s < a) {P Q:SF} :
  (sIf (tst (e2 (zaa 7) 013 (fIs false))) P (sIf (tst (e2 (zaa 7) (zaa 4) fGt)) Q sNil)) [.d N,⇑p,⇑q,y3,⇑s,.l os,⇑k,⇑a]=.nx [.d N,⇑p,⇑q,y3,⇑s,.l os,⇑k,⇑a]:=by
 have gt:fGt ⇑a ⇑s=some 0002:=by simp;omega
 exact if_f 0019 (if_f (zaq (zal rfl rfl rfl rfl rfl gt) rfl) rfl)
end
theorem zg6 {n one other:Int} {rs:List Road} (ok:zay n rs) (T:Taut rs) (h1:0<=one/\one < n) (h2:0<=other/\other < n) :
  zbT 036=.ok (.l (detO (detL n rs one other))) []:=by
 have n1:=ok.n1;have rl:=ok.len;have tl:=zg1 (n:=n) (one:=one) (other:=other) (rs:=rs);have lt:=zjy ok T h1 h2;have lf:=zb2 (one:=one) ⟨ok,by omega,T⟩ h1;have g0:=zkn (n:=n) (one:=one) (rs:=rs) h2;have zlL:∀ρ:Rho,zcu 05 ρ=[]:=fun ρ=>by rcases ρ with _ | ⟨a,_ | ⟨b,_ | ⟨c,d⟩⟩⟩<;>rfl
 have fin:∀o ρ',zdy [.d 02,⇑one,⇑other,.z,.z,.z,.z,.z]=.rt o ρ'->zbT 036=.ok o []:=fun o ρ' h=>by
  refine Eq.trans ?_ (congrArg (Rc.ok _) (zlL ρ'));exact zgl (ms:=05) (n:=8) (S:=zdy) (os:=036) h
 obtain ⟨ρ',st,z6,z7,rfl⟩:∃ρ',forF (gtN 6) zc1 (((zav n rs one other).map PyData.int).map O.d) [.d (netD n rs),⇑one,⇑other,.d (zai (zav n rs one other)),.d (oD (cel n rs one other)),.l [],.z,.z]=.nx ρ'/\∃z6 z7,ρ'=[.d (netD n rs),⇑one,⇑other,.d (zai (zav n rs one other)),.d (oD (cel n rs one other)),.l (detO (detL n rs one other)),z6,z7]:=by
  obtain ⟨c,hc⟩:∃c,cel n rs one other=c:=⟨_,rfl⟩
  cases c with
  | none=>
   have e:zav n rs one other=[]:=if_pos hc;have e2:detL n rs one other=[]:=by unfold detL;rw[hc]
   rw[e,e2,hc];exact ⟨_,rfl,_,_,rfl⟩
  | some s=>
   have e2:detL n rs one other=(zav n rs one other).flatMap (detE n rs one other s):=by unfold detL;rw[hc]
   rw[hc]
   have:=zbZ (G:=gtN 6) (S:=zc1) (items:=((zav n rs one other).map PyData.int).map O.d) (ρ:=[.d 02,⇑one,⇑other,.d (zai 029),⇑s,.l [],.z,.z])
    (fun i ρ=>∃z6 z7,ρ=[.d 02,⇑one,⇑other,.d (zai 029),⇑s,.l (detO (((zav n rs one other).take i).flatMap (detE n rs one other s))),z6,z7]) ⟨_,_,rfl⟩
    (fun i x ρ hx h=>by
     obtain ⟨z6,z7,e⟩:=h;subst e;rw[List.getElem?_map,List.getElem?_map] at hx;obtain ⟨d,hd,rfl⟩:=Option.map_eq_some_iff.mp hx;obtain ⟨k,hk,rfl⟩:=Option.map_eq_some_iff.mp hd;have kin:=zhZ (List.mem_of_getElem? hk);have es:=(F29.zlX (n:=n) rl kin).1;have fs:=zoO n (F29.zaO rs k.toNat);have oks:=F29.zfc ok k.toNat;have Ts:=F29.zdN T k.toNat;have lf:=zb2 (one:=one) ⟨oks,by omega,Ts⟩ h1;have g:=zkn (n:=n) (one:=one) (rs:=F29.zaO rs k.toNat) h2;have ol:(detO (((zav n rs one other).take i).flatMap (detE n rs one other s))).length < sizeLine:=zej (by
      unfold detO;rw[List.length_map]
      have:=zhl n rs one other s ((zav n rs one other).take i)
      rw[List.length_take] at this
      omega)
     unfold netO at es;unfold fnO at lf g;have b1:=fun w3 w4 w7=>zr7 (os:=detO (((zav n rs one other).take i).flatMap (detE n rs one other s))) (y3:=w3) (y:=w4) (z7:=w7) es fs lf g
     have dt:=znG (n:=n) (rs:=rs) (one:=one) (other:=other) (s:=s) hk;obtain ⟨c,hc'⟩:∃c,cel n (F29.zaO rs k.toNat) one other=c:=⟨_,rfl⟩;rw[hc'] at b1
     cases c with
     | none=>
      have de:detE n rs one other s k=[(k,none)]:=by unfold detE;rw[hc']
      rw[dt,de];exact ⟨_,_,rfl,zag (b1 _ _ _) (zru ol),_,_,rfl⟩
     | some a=>
      have de:detE n rs one other s k=if s < a then [(k,some (a - s))] else []:=by unfold detE;rw[hc']
      by_cases c:s < a
      .rw[if_pos c] at de;rw[dt,de];exact ⟨_,_,rfl,zag (b1 _ _ _) (zsa ol c),_,_,rfl⟩
      .rw[if_neg c] at de;rw[dt,de];refine ⟨_,_,rfl,zag (b1 _ _ _) (zuW c),⇑k,⇑a, ?_⟩;rw[show detO []=[] from rfl,List.append_nil])
   obtain ⟨ρ',st,z6,z7,e⟩:=this;rw[List.length_map,List.length_map,List.take_length,<-e2] at e;exact ⟨ρ',st,z6,z7,e⟩
 have fi:=zbK 029;have sr:∀w4 w5 w6 w7,srcM false 001 (zaa 3) [.d 02,⇑one,⇑other,zad 029,w4,w5,w6,w7]=.ok ((((zav n rs one other).map PyData.int).map O.d,none),true) [.d 02,⇑one,⇑other,.d (zai 029),w4,w5,w6,w7] true:=fun w4 w5 w6 w7=>by
  unfold zad zai at *;generalize (zav n rs one other).map 0023=Z at *;unfold srcM;simp[fi,cov,-List.map_map]
 unfold zad fnO at *;generalize (zav n rs one other).map 0023=Z at *;generalize (List.range n.toNat).map (fun v:Nat=>eO (tC n rs one) v)=Y at *;generalize netD n rs=Nd at *;exact fin _ _ (zag (zap (zaI 008 rfl lt rfl rfl) rfl rfl) (zag (zap (zbt (zaI 00 rfl lf rfl rfl) 09 rfl (g0 _)) rfl rfl) (zag (zap 040 rfl rfl) (zag (zeB (sr _ _ _ _) st) (zaL rfl rfl)))))
theorem zor {I:Rho->Re (Src×Bool)} {js:List 015} {G:GF} {T:TF} {A:EF} {ρ ρ1:Rho} {items os:List O} {kd q1 q2:Bool} (h:I ρ=.ok ((items,none),kd) ρ1 q1) (hl:items.length<=sizeLine) (k:lcF js G T A items ρ1 [] true=.ok os ρ1 q2):eLS I js G T A ρ=.ok (.own (.l os)) ρ1 (q1&&q2):=F24.zkj h hl k rfl
theorem zqd (xs:List (Int×Option Int)):detO xs=(xs.map detD).map O.d:=by
 unfold detO;rw[List.map_map];rfl
theorem zoq (xs:List (Int×Option Int)):fz (.l (detO xs))=some (.list (xs.map detD)):=by
 rw[zqd,zhR]
theorem zkq {n one other:Int} {rs:List Road}:(detL n rs one other).length<=rs.length:=by
 unfold detL;split
 .simp
 .exact Nat.le_trans (zhl _ _ _ _ _ _) zg1
def fstO:O->O
 | .d (.tuple (.int x::_))=>⇑x
 | o=>o
theorem zl8 {n one other:Int} {rs:List Road} (ok:zay n rs) (T:Taut rs) (h1:0<=one/\one < n) (h2:0<=other/\other < n) :
  zc8 036=.ok (zad ((detL n rs one other).map Prod.fst)) []:=by
 have rl:=ok.len;have dl:=zkq (n:=n) (one:=one) (other:=other) (rs:=rs);have dt:=zg6 ok T h1 h2;obtain ⟨q,e⟩:=zds (js:=[none,none]) (G:=gtT 024) (T:=gRet true) (A:=zew) (ρ:=036) (fun _=>true) fstO (items:=((detL n rs one other).map detD).map O.d) (acc:=[]) (q:=true) (fun o ho=>by
  rw[List.map_map] at ho;obtain ⟨x,hx,rfl⟩:=List.mem_map.mp ho;exact ⟨[⇑x.1,.d (oD x.2)],[⇑x.1,.d (oD x.2)],true,rfl,rfl,(fun _=>⟨.at 0 [],[⇑x.1,.d (oD x.2)],true,[⇑x.1,.d (oD x.2)],rfl,rfl,rfl⟩),(fun h=>by cases h)⟩)
 have em:(((detL n rs one other).map detD).map O.d).map fstO=((detL n rs one other).map Prod.fst).map fun h=>O.d (.int h):=by
  rw[List.map_map,List.map_map,List.map_map];rfl
 rw[F29.zdn,List.nil_append,em] at e;have fd:=zoq (detL n rs one other);have lz:(((detL n rs one other).map detD).map O.d).length<=sizeLine:=zbW (by simp;omega);unfold zad;generalize ((detL n rs one other).map Prod.fst).map 0023=Z at *;generalize (detL n rs one other).map detD=D at *;generalize detO (detL n rs one other)=Y at *;generalize netD n rs=Nd at *;exact zaY rfl (zaL (zor (zhT (mk:=fun ds=>ds.map O.d) (zaI 008 rfl dt rfl rfl) fd) lz e) rfl) rfl
end F30
end My
namespace L2
open PySem PySem.Spec PySem.Calls PySem.W PyProof.Rows
section
variable {X:Cx} {E:XK}
end
section
variable (mg:Str->Option Value) (K:PySem.W.Frag) (E:XK) (L:List Nat)
end
section
variable {X:Cx} {L:List Nat}
end
section
variable {X:Cx} {E:XK} {L:List Nat}
end
section
variable {X:Cx} {E:XK}
end
end L2
namespace L2
open PySem PySem.Spec PyProof.Rows
section
variable {X:Cx} {E:XK} {L:List Nat}
end
end L2
namespace L2
open PySem PySem.Spec PySem.Calls PyProof.Rows
def zipO:List PyData->List PyData->List O
 | a::as,b::bs=>.d (.tuple [a,b])::zipO as bs
 | _,_=>[]
theorem zj3:∀{as bs:List PyData} {i:Nat} {a b:PyData},as[i]? = some a->bs[i]? = some b->(zipO as bs)[i]? = some (.d (.tuple [a,b]))
 | [],_,_,_,_,h,_=>by simp at h
 | _::_,[],_,_,_,_,h=>by simp at h
 | x::as,y::bs,0,a,b,h,k=>by simp at h k;subst h k;rfl
 | x::as,y::bs,i+1,a,b,h,k=>by
  rw[zipO,List.getElem?_cons_succ];exact zj3 (by simpa using h) (by simpa using k)
theorem zhJ:∀(as bs:List PyData),(zipO as bs).length=min as.length bs.length
 | [],_=>by simp[zipO]
 | _::_,[]=>by simp[zipO]
 | x::as,y::bs=>by rw[zipO,List.length_cons,zhJ as bs,List.length_cons,List.length_cons];omega
def zz:List O->Option (List O)
 | [.d (.list as),.d (.list bs)]=>some (zipO as bs)
 | _=>none
theorem zpv {os is:List O} (h:zz os=some is):∃as bs,os=[.d (.list as),.d (.list bs)]/\is=zipO as bs:=by
 unfold zz at h;split at h
 .cases h;exact ⟨_,_,rfl,rfl⟩
 .cases h
def itZ (AA:AF):Rho->Re (List O):=fun ρ=>(AA ρ).bind fun rs ρ1 q=>match coes ρ1 rs with
 | some (os,ρ2)=>match zz os with
  | some is=>.ok is ρ2 q
  | none=>.bad
 | none=>.bad
section
variable {mg:Str->Option Value} {K:PySem.W.Frag} {E:XK}
theorem Ows.two {H:Hp} {W:Addr->Prop} {vs:List V} {as bs:List PyData} {As:List Addr} (h:Ows mg K H W vs [.d (.list as),.d (.list bs)] As):∃a b xs ys,vs=[.ref a,.ref b]/\H a=some 098/\¬W a/\Dns H W xs as/\H b=some (.lst ys)/\¬W b/\Dns H W ys bs:=by
 cases h with
 | cons a b=>
  cases b with
  | cons b c=>
   cases c
   cases a with
   | d a=>
    cases b with
    | d b=>
     cases a with
     | lst n q t=>
      cases b with
      | lst n' q' t'=>exact ⟨_,_,_,_,rfl,q,n,t,q',n',t'⟩
end
section
variable {X:Cx} {E:XK} {L:List Nat}
theorem lc_Z {AA:AF} {A:EF} {js:List 015} {G:GF} {T:TF} {σ:St} {H:Hp} {Q:VK} (nd:(caps js).Nodup) (h:tR X.mg X.K E (eLC (itZ AA) js G T A) σ H Q):tLC (iZ (tRs X.mg X.K E AA)) js (tTg X.mg X.K (capL js) G) (tT X.mg X.K E0' T) (tR X.mg X.K E0' A) σ H Q:=by
 obtain ⟨W,ρ,f,ok,q⟩:=h;refine zpV (X:=X) ze3 ok ?_;unfold eLC itZ at q
 cases ea:AA ρ with
 | bad=>rw[ea] at q;exact q
 | ex c ρ'=>rw[ea] at q;exact q
 | ok rs ρ1 q1=>
  rw[ea] at q;dsimp only[Re.bind] at q ⊢
  cases ec:coes ρ1 rs with
  | none=>rw[ec] at q;exact False.elim q
  | some z=>
   obtain ⟨os,ρ2⟩:=z;rw[ec] at q;dsimp only at q ⊢;intro vs H' W' f' As s ow nd' ap m k
   cases ez:zz os with
   | none=>rw[ez] at q;exact False.elim q
   | some is=>
    rw[ez] at q;dsimp only at q;obtain ⟨as,bs,rfl,rfl⟩:=zpv ez
    by_cases hz:(zipO as bs).length<=sizeLine
    .rw[if_pos hz] at q
     cases b:lcF js G T A (zipO as bs) ρ2 [] true with
     | bad=>rw[b] at q;exact False.elim q
     | ex c ρ'=>rw[b] at q;exact False.elim q
     | ok os' ρ3 q3=>
      rw[b] at q;obtain ⟨a,b',xs,ys,rfl,ha,na,da,hb,nb,db⟩:=Ows.two ow;have m':Mv (Inn f) H W (Inn f') H' W':=m.narrow fun x z=>.inl z
      refine ⟨a,b',xs,ys,rfl,ha,hb,zjq (items:=zipO as bs) (.next s m' fun _ z=>z) nd (fun k i=>zgd) hz (fun i H2 W2 ⟨_,mm⟩ hi=>?_) (fun H2 W2 ⟨_,mm⟩=>?_) (fun i H2 W2 x H3 ⟨_,mm⟩ dd hi y=>?_) b (zox ok m' k q)⟩
      .rw[zhJ,<-da.length,<-db.length] at hi;have h1:i < xs.length:=by omega
       have h2:i < ys.length:=by omega
       exact ⟨xs,xs[i],ys,ys[i],(mm.d a _ ha na).1,by simp[h1],(mm.d b' _ hb nb).1,by simp[h2]⟩
      .exact ⟨xs,ys,(mm.d a _ ha na).1,(mm.d b' _ hb nb).1,by rw[zhJ,da.length,db.length];omega⟩
      .obtain ⟨t,z,w,rfl,ht,rfl,y1,y2⟩:=y;obtain ⟨d,e1,e2⟩:=da.getV (y1 xs (mm.d a _ ha na).1);obtain ⟨d',e1',e2'⟩:=db.getV (y2 ys (mm.d b' _ hb nb).1);have g:Gr H2 W2 [] (upd H2 t (.tup [z,w])) W2:=.new ht;exact ⟨g,_,zj3 e1 e1',.d (.tup (fun w=>dd t w ht) zbu (.cons ((e2.on mm.d).on g.d) (.cons ((e2'.on mm.d).on g.d) .nil)))⟩
    .rw[if_neg hz] at q;exact False.elim q
section
variable {elt:Expr} {ifs:List Expr} {scope:Scope} {pos:Pos} {N':List Str} {js:List (Option Nat)} {G:GF} {T:TF} {A:EF} {AA:AF}
theorem zom {elts:List Expr} {kk:Nat} {tp p cpos:Pos} {a b:Expr} (hi:VA X E [a,b] AA) (hgl:Gl X "zip") (hm:X.mg "zip"=none) (hc:X.calm=true) (hcap:zh0 X.N X.env.scope N' scope js=true) (hf:zfo X.env.scope scope=true) (hkind:scope.kind=.function) (nd:(caps js).Nodup)
  (hb:Blk X N' scope js (.Tuple elts kk tp) ifs elt G T A) (hst:starEach [a,b] X.env=(false,eval a X.env)::starEach [b] X.env:=by rfl) (hpl:(backTo cpos (starEach [b] X.env)).any (·.1)=false:=by rfl)
  (hs:∀x,foldedSetIterable (.Call (.Name "zip" p) [a,b] [] cpos) X.env x=pure x:=by intro _;rfl):VR X E (.ListComp elt [⟨.Tuple elts kk tp,.Call (.Name "zip" p) [a,b] [] cpos,ifs,0⟩] scope pos) (eLC (itZ AA) js G T A):=
 (zqs hc (zqK hgl hm hi hst hpl) hcap zh7 hf hkind hb hs).imp fun σ H Q h=>lc_Z nd h
end
end
end L2
namespace L2
open PySem PyProof.Rows
theorem zpI:typeLookup (.type "list") (Str.ofString "__iter__")=pure (some (.builtin "list.__iter__")):=by kernel_rfl
theorem zh1 {prog:Program} {w:World} {A:Around} {E:Value->Shared->Prop} {it l:Addr} {items:Array Value} (hne:l≠it):∀(n i:Nat) (s:Shared) (Q:List Value->Shared->Prop),s.heap.IsListIter it l i->s.heap.IsList l items->i+n<=items.size->
  (∀h',Heap.IsListIter h' it l (i+n)->Heap.SameBut it s.heap h'->Q ((items.toList.drop i).take n) { s with heap:=h' })->wpAny 052 A (draw (.ref it) n) Q E s
 | 0,i,s,Q,h1,h2,hl,k=>by
  rw[draw.eq_1];exact wpAny_pure (k s.heap h1 ⟨rfl,fun _ _=>rfl⟩)
 | n+1,i,s,Q,h1,h2,hl,k=>by
  have hi:items[i]? = some items[i]:=Array.getElem?_eq_getElem ∅;rw[draw.eq_2];refine wpAny_bind (wpAny_pyNext_list_item h1 h2 hi fun h' i1 sb=>?_);dsimp only;have h2':Heap.IsList h' l items:=by
   obtain ⟨o,e,r⟩:=h2;exact ⟨o,(sb.2 l hne).trans e,r⟩
  refine wpAny_bind (wpAny_holding (zh1 hne n (i+1) { s with heap:=h' } _ i1 h2' ∅ fun h'' i2 sb2=>?_));refine wpAny_pure ?_;have e:(items.toList.drop i).take (n+1)=items[i]::(items.toList.drop (i+1)).take n:=by
   rw[List.drop_eq_getElem_cons (by simpa using (by omega:i < items.size)),List.take_succ_cons];simp
  rw[<-e];exact k h'' (by rw[show i+(n+1)=i+1+n by omega];exact i2) ⟨sb2.1.trans sb.1,fun b hb=>(sb2.2 b hb).trans (sb.2 b hb)⟩
theorem zf5 {prog:Program} {w:World} {A:Around} {E:Value->Shared->Prop} {s:Shared} {l:Addr} {items:Array Value} {Q:List Value->Shared->Prop} (hA:A.handled=none) (h:s.heap.IsList l items)
  (k:∀h',Heap.ExtBut s.heap.objs.size s.heap h'->Q items.toList { s with heap:=h' }):wpAny 052 A (unpackItems (.ref l) items.size none) Q E s:=by
 have hT:s.TypeIs (.ref l) "list":=by
  obtain ⟨o,e,c,_⟩:=h;exact ⟨o,e,c⟩
 unfold unpackItems notIterableAtAll;refine wpAny_bind (wpAny_bind (wpAny_specialOf hT zpI ?_));simp only[Option.isSome_some,if_true];refine wpAny_pure ?_;simp only[Bool.false_eq_true,if_false];refine wpAny_bind (wpAny_holding (wpAny_pyIter_list h ?_));have hl:l < s.heap.objs.size:=by
  obtain ⟨o,e,_⟩:=h;exact Heap.lt_size e
 have i0:Heap.IsListIter (s.heap.push { cls:=.type "list_iterator",data:=.fields #[.ref l,.int 0 0] }) s.heap.objs.size l 0:=⟨_,Heap.get?_push_size _ rfl,rfl,rfl⟩;have h0:Heap.IsList (s.heap.push { cls:=.type "list_iterator",data:=.fields #[.ref l,.int 0 0] }) l items:=by
  obtain ⟨o,e,r⟩:=h;exact ⟨o,Heap.get?_push_of_some _ e,r⟩
 refine wpAny_bind (wpAny_holding (zh1 (Nat.ne_of_lt hl) items.size 0 _ _ i0 h0 ∅ fun h1 i1 sb=>?_));simp only[List.drop_zero];rw[List.take_of_length_le (by simp)];rw[if_neg (by simp)];have h1':Heap.IsList h1 l items:=by
  obtain ⟨o,e,r⟩:=h0;exact ⟨o,(sb.2 l (Nat.ne_of_lt hl)).trans e,r⟩
 refine wpAny_bind (wpAny_holding (wpAny_pyNext_list_end hA i1 h1' (by simp) fun h2 eb=>?_));simp only[Option.isSome_none,Bool.false_eq_true,if_false];refine wpAny_pure (k h2 fun b o hb e=>eb b o hb ((sb.2 b hb).trans (Heap.get?_push_of_some _ e)))
theorem zfy {prog:Program} {w:World} {A:Around} {E:Value->Shared->Prop} {s:Shared} {env:Env} {elts:List Expr} {k:Nat} {pos:Pos} {l:Addr} {items:Array Value} {Q:Unit->Shared->Prop} (hA:A.handled=none) (h:s.heap.IsList l items)
  (hn:(assignEach elts env).length=items.size) (hst:(assignEach elts env).findIdx? (·.1)=none)
  (kk:∀h',Heap.ExtBut s.heap.objs.size s.heap h'->wpAny 052 A (assignInOrder ((assignEach elts env).map (·.2)) items.toList) Q E { s with heap:=h' }):wpAny 052 A (assign (.Tuple elts k pos) env (.ref l)) Q E s:=by
 rw[arm_assign_Tuple];refine wpAny_bind (wpAny_standAt ?_);unfold unpack;rw[hst,hn];exact wpAny_bind (wpAny_holding (zf5 hA h fun h' hx=>kk h' hx))
section
variable {X:Cx}
def ztH (K:PySem.W.Frag) (n:Nat) (t:TGs):TG:=fun v σ H Q=>∃a xs,v=.ref a/\SqL K H a xs/\xs.length=n/\t xs σ H Q
theorem zpj {es:List Expr} {k:Nat} {t:TGs} {n:Nat} {pos:Pos} (hc:X.calm=true) (h:PGs X es t)
  (hn:(assignEach es X.env).length=n:=by rfl) (hst:(assignEach es X.env).findIdx? (·.1)=none:=by rfl):PG X (.Tuple es k pos) (ztH X.K n t):=by
 intro pins s σ H v u Q I r hw;obtain ⟨a,xs,e1,hq,hl,hw⟩:=hw;subst e1;cases r;obtain ⟨its,rv,ht,hz⟩:=I.list hq;refine zfy (I.ok.hd hc) ht.isList (by simp[hn,<-hl,rv.length]) hst fun h' hx=>?_
 have I1:Inv X pins σ H { s with heap:=h' }:=I.kept (t':=s.toks) fun b o e=>hx b o (Nat.ne_of_lt (Heap.lt_size e)) e
 exact h pins _ σ H xs _ Q I1 (by simpa using rv) hw
def gtL (R:List O->Rho->Option Rho):GF:=fun o ρ=>match els o with
 | some (true,os)=>R os ρ
 | _=>none
theorem zp8 {es:List Expr} {k:Nat} {R:List O->Rho->Option Rho} {pos:Pos} {L:List Nat} (hc:X.calm=true) (h:VGs X L es R) (n:Nat) (hR:∀os ρ ρ',R os ρ=some ρ'->os.length=n)
  (hn:(assignEach es X.env).length=n:=by rfl) (hst:(assignEach es X.env).findIdx? (·.1)=none:=by rfl):VG X L (.Tuple es k pos) (gtL R):=fun pins s σ H v u Q I r hx__=>by
 obtain ⟨W,ρ,f,o,B,ρ',sl,ow,nd,ap,sb,dm,e,q⟩:=hx__;refine zpj hc h hn hst pins s σ H v u Q I r ?_;unfold gtL at e
 cases z:els o with
 | none=>rw[z] at e;cases e
 | some y=>
  obtain ⟨b,os⟩:=y;rw[z] at e
  cases b with
  | false=>cases e
  | true=>
   obtain ⟨a,vs,A,rfl,h2,h3,h4⟩:=ow.els z;exact ⟨a,vs,rfl,SqL.of h2,by rw[h3.length];exact hR os ρ ρ' e,W,ρ,f,os,A,ρ',sl,h3,nd.sublist h4,fun x hx=>ap x (h4.subset hx),fun x hx=>sb x (hx.imp id (fun z=>h4.subset z)),dm,e,fun σ' f' s' i' l'=>q σ' f' s' (fun x hx=>(i' x hx).imp id (fun z=>h4.subset z)) l'⟩
end
end L2
noncomputable section
namespace My
open PySem L2
def zcE:EF:=(eIx (eIx (zaa 2) (zaa 0)) (zaa 1))
def zee:SF:=(sRet coe (zah [false] zaJ (zac (eLC (itZ 011) [none,none,some 0] (gtT 024) 055 zcE) aNil)))
def zbs:FC:=runF 06 2 zee
def zdu:SF:=(zbd (zah 06 za7 (zac (zaa 0) 058)))
def zf6:SF:=(sSeq (zbd (zah [false] zbq 030))
  (sSeq (zfD (srcM false 001 (zaa 1)) (gtN 2) zdu)
  (sSeq (sIf (gNot (zdG ↥1 (eB 047 (f1 fLen)) ↥(7) 063 063)) sBad sNil)
  (sRet mov (zah [false] zbi 030)))))
def zco:FC:=runF 06 3 zf6
def zgZ:SF:=(sRet coe (zah 06 zbs (zac (eFz (zah 06 zco 006)) 047)))
def zbU:FC:=runF 06 2 zgZ
def zfZ:SF:=(sSeq (zbd (zah 05 zat 07))
  (sSeq (sIf (gNot (eSc trV (zah 01 zcQ 019))) sBad sNil)
  (sRet mov (zah 06 zbx 068))))
def zbn:FC:=runF 01 4 zfZ
end My
end
namespace My
open PySem L2
namespace F43
section
variable {c d:Int} {a b:List Road} {r:Road} {p q L:Int}
end
theorem zuT {n:Int} {rs:List Road} {ρ:Rho} {j:Nat} (h:ρ[j]? = some (.d 02)):gIx ρ (.at j []) 0=some (.own ⇑n):=by
 rw[zdE,h];exact rfl
theorem zmh {a b:List PyData} (h:a.length+b.length<=1000):fAdd (.l (a.map O.d)) (.d (.list b))=some (.l ((a++b).map O.d)):=by
 have hz:a.length+b.length<=sizeLine:=zbW ∅;simp only[fAdd,els,zd9];rw[if_pos hz]
section
variable {N M W Ld T T1 T2:PyData} {c d e:Int} {os xs x1 x2 xx ro ro2 tw fo1 fo2 fo:List O} {la l4 l5 ds d1 d2:List PyData} {q4 q5:Bool} {t4 t5:List O}
end
end F43
end My
namespace L2
open PySem
section
variable {A B C:EF} {AA:AF} {ρ ρ1 ρ2 ρ3 ρ4:Rho} {r ra rb:Rv} {rs:List Rv} {q q1 q2 q3:Bool} {o x y z:O} {os outs:List O} {is:List Nat} {ms:List Bool} {F:FC} {S T U:SF} {V W:TF} {b c:Bool} {e:Str}
theorem zgN {G:GF} {xs:List O} {R:Rt} (h:G x ρ=some ρ1) (k:S ρ1=.nx ρ2) (l:forF G S xs ρ2=R):forF G S (x::xs) ρ=R:=by rw[forF,h];dsimp only;rw[k];exact l
theorem zcI {x:PyData} (h:A ρ=.ok (.own o) ρ1 q) (f:fz o=some x):eFz A ρ=.ok (.own (.d x)) ρ1 q:=by unfold eFz;rw[h];dsimp only;rw[f]
theorem zdv {L' U':Rho->Re 08} {l u:Option Int} (h:A ρ=.ok ra ρ1 q1) (hl:L' ρ1=.ok l ρ2 q2) (hu:U' ρ2=.ok u ρ3 q3) (p:pok ρ1 (q2&&(q3&&true)) ra=true) (hv:vn ρ3 ra=some o) (hf:fSl o l u=some z) :
  eSl A L' U' ρ=.ok (.own z) ρ3 (q1&&(q2&&(q3&&true))):=by
 unfold eSl;rw[h];dsimp only[Re.bind];rw[zbX hl (zbX hu rfl)];dsimp only;rw[if_pos p,hv];dsimp only;rw[hf]
theorem ze9 {i:Int} (h:eSc decI A ρ=.ok i ρ1 q):zcZ A ρ=.ok (some i) ρ1 (q&&true):=zbX h rfl
end
end L2
namespace My
open PySem L2
namespace F43
theorem zka {A B C:EF} {p q:Int->Int->Bool} {ρ ρ1 ρ2 ρ3:Rho} {a b c:Int} {q1 q2 q3:Bool} (h:eSc decI A ρ=.ok a ρ1 q1) (k:eSc decI B ρ1=.ok b ρ2 q2) (hp:p a b=true) (l:eSc decI C ρ2=.ok c ρ3 q3) (hq:q b c=true):zdG A B C p q ρ=.ok true ρ3 (q1&&(q2&&(q3&&true))):=by
 unfold zdG;refine zbX h (zbX k ?_);rw[if_pos hp];refine zbX l ?_;rw[hq];rfl
theorem zei {n p q:Int} {rs:List Road} {W:List Int} (ok:zay n rs) (hp:0<=p/\p < n) (hq:0<=q/\q < n) (ld:zaR rs p q W=true) (hl:W.length<=1000):zbn [.d 02,⇑p,⇑q,.d (zai W)]=.ok ⇑(zaK rs W) []:=by
 have c:=za2 ok hp hq;have l:=zki (n:=n) ld;have w:=zfb (n:=n) hl (zeA ld);generalize netD n rs=N at *;generalize zai W=I at *;exact zaY rfl (L2.zag (za6 (zaN 008 rfl c rfl)) (L2.zag (if_f (zho (zaC (zaN 061 rfl l rfl) rfl rfl)) rfl) (zaL (zaN 00 rfl w rfl) rfl))) rfl
theorem zfR {n:Int} {rs:List Road} {S:List Int} (ok:zay n rs) (T:Taut rs) (hS:∀s∈S,0<=s/\s < n) (h1:1<=S.length) (h7:S.length<=7):zco [.d 02,.d (zai S)]=.ok (tabO 03) []:=by
 have c:=zed ok;have t:=ze8 ok T;obtain ⟨ρ',st,z,rfl⟩:=zbZ (G:=gtN 2) (S:=zdu) (items:=(S.map PyData.int).map O.d) (ρ:=[.d 02,.d (zai S),.z]) (fun i ρ=>∃z,ρ=[.d 02,.d (zai S),z]) ⟨_,rfl⟩ (fun i x ρ hx hx__=>by
  obtain ⟨z,e⟩:=hx__;subst e;rw[List.getElem?_map,List.getElem?_map] at hx;obtain ⟨y,hy,rfl⟩:=Option.map_eq_some_iff.mp hx;obtain ⟨s,hs,rfl⟩:=Option.map_eq_some_iff.mp hy;obtain ⟨a,b⟩:=hS s (List.mem_of_getElem? hs);have cp:=zdA (rs:=rs) a b;generalize netD n rs=N at *;exact ⟨_,_,rfl,za6 (zaN 00 rfl cp rfl),_,rfl⟩)
 have lds_:lds ((S.map PyData.int).map O.d)=some 020:=zd9 _;have sr:srcM false 001 (zaa 1) [.d 02,.d (zai S),.z]=.ok (((S.map PyData.int).map O.d,none),true) [.d 02,.d (zai S),.z] true:=by
  unfold zai;simp[els,cov,lds_]
 have ln:eB 047 (f1 fLen) [.d 02,.d (zai S),z]=.ok (.own ⇑(S.length:Int)) [.d 02,.d (zai S),z] true:=by
  unfold zai;simp[f1,fLen,els,vns,vn,vw,sub,pok]
 have ch:=zka (p:=fun i j=>decide (i<=j)) (q:=fun i j=>decide (i<=j)) (A:=↥1) (C:=↥7) (ρ:=[.d 02,.d (zai S),z]) 09 (zaC ln rfl rfl) (decide_eq_true ∅) 09 (decide_eq_true ∅);unfold tabO at *;generalize netD n rs=N at *;generalize zai S=I at *;exact zaY rfl (L2.zag (za6 (zaN 009 rfl c rfl)) (L2.zag (F30.zeB sr st) (L2.zag (if_f (zho ch) rfl) (zaL (zaI 009 rfl t rfl rfl) rfl)))) rfl
section
variable {N M R W x y:PyData} {c d a0 b0 e0 f0 L k:Int} {P0 P1 P2 P3 os xs ys ws t1 r1 t2 r2 po:List O} {la:List PyData} {fo t0 l0:O} {q1 q2:Bool} {s:Str} {Rs:Rt}
end
section
variable {N M W x y Wd:PyData} {c d a0 b0 e0 f0 L k A B:Int} {P3 ws:List O} {w15 w14 t0:O} {q:Bool} {ks:List Int}
end
open F30 (cel detL zav zaQ zaW detE)
end F43
end My
noncomputable section
namespace My
open PySem L2
end My
end
namespace My
open PySem L2
namespace F32
open F30 (cel detL zav zaQ zaW detE)
open F29 (zaO)
def IsO (S:Int->Prop):Option Int->Prop
 | none=>∀L,¬S L
 | some d=>S d/\∀L,S L->d<=L
theorem IsO.eq {S S':Int->Prop} {a b:Option Int} (h:IsO S a) (g:IsO S' b) (h1:∀L,S L->∃M,M<=L/\S' M) (h2:∀L,S' L->∃M,M<=L/\S M):a=b:=by
 cases a with
 | none=>
  cases b with
  | none=>rfl
  | some e=>obtain ⟨M,_,z⟩:=h2 e g.1;exact absurd z (h M)
 | some d=>
  cases b with
  | none=>obtain ⟨M,_,z⟩:=h1 d h.1;exact absurd z (g M)
  | some e=>
   obtain ⟨M,l,z⟩:=h1 d h.1;obtain ⟨N,l',z'⟩:=h2 e g.1
   have:=g.2 M z
   have:=h.2 N z'
   exact congrArg some ∅
theorem zbC {n p q:Int} {rs:List Road} (ok:zay n rs) (T:Taut rs) (hp:0<=p/\p < n) (hq:0<=q/\q < n):IsO (Wk rs p q) 073:=by
 cases h:cel n rs p q with
 | none=>exact (zeZ ok T hp hq).mp h
 | some d=>exact (zeX ok T hp hq).mp h
theorem IsO.by {S S':Int->Prop} {a b:Option Int} (h:IsO S a) (g:IsO S' b) (l:Int):IsO (fun L=>∃A B,S A/\S' B/\L=A+l+B) (byC a l b):=by
 cases a with
 | none=>
  rintro L ⟨A,B,u,v,e⟩
  exact h A u
 | some d=>
  cases b with
  | none=>
   rintro L ⟨A,B,u,v,e⟩
   exact g B v
  | some e=>
   refine ⟨⟨d,e,h.1,g.1,rfl⟩, ?_⟩
   rintro L ⟨A,B,u,v,rfl⟩
   have:=h.2 A u
   have:=g.2 B v
   omega
theorem IsO.add {S:Int->Prop} {a:Option Int} (h:IsO S a) (l:Int):IsO (fun L=>∃A,S A/\L=A+l) (a.map (·+l)):=by
 cases a with
 | none=>
  rintro L ⟨A,u,e⟩
  exact h A u
 | some d=>
  refine ⟨⟨d,h.1,rfl⟩, ?_⟩
  rintro L ⟨A,u,rfl⟩
  have:=h.2 A u
  show d+l<=A+l
  omega
def lO (a b:Option Int):Option Int:=match a,b with
 | none,b=>b
 | some d,none=>some d
 | some d,some e=>if e < d then some e else some d
theorem IsO.or {S S':Int->Prop} {a b:Option Int} (h:IsO S a) (g:IsO S' b):IsO (fun L=>S L\/S' L) (lO a b):=by
 cases a with
 | none=>
  cases b with
  | none=>exact fun L z=>z.elim (h L) (g L)
  | some e=>exact ⟨.inr g.1,fun L z=>z.elim (fun z=>absurd z (h L)) (g.2 L)⟩
 | some d=>
  cases b with
  | none=>exact ⟨.inl h.1,fun L z=>z.elim (h.2 L) (fun z=>absurd z (g L))⟩
  | some e=>
   show IsO _ (if e < d then some e else some d)
   split
   .refine ⟨.inr g.1,fun L z=>z.elim (fun z=>?_) (g.2 L)⟩
    have:=h.2 L z
    omega
   .refine ⟨.inl h.1,fun L z=>z.elim (h.2 L) fun z=>?_⟩
    have:=g.2 L z
    omega
theorem znO {rs:List Road} {k:Int} {r:Road} (hr:zaH rs k=some r):∀x,x∈rs↔x∈zaO rs k.toNat++[r]:=fun x=>by
 obtain ⟨k0,k1,k2⟩:=za9 hr;have hk:k.toNat < rs.length:=by omega
 have e:rs=rs.take k.toNat++r::rs.drop (k.toNat+1):=by
  conv=>lhs;rw[<-List.take_append_drop k.toNat rs]
  rw[List.drop_eq_getElem_cons hk]
  have:rs[k.toNat]=r:=by
   rw[List.getElem?_eq_getElem hk] at k2;exact Option.some.inj k2
  rw[this]
 unfold F29.zaO;constructor
 .intro h;rw[e] at h;simp only[List.mem_append,List.mem_cons,List.mem_nil_iff,or_false] at h ⊢;rcases h with h | h | h
  .exact .inl (.inl h)
  .exact .inr h
  .exact .inl (.inr h)
 .intro h;rw[e];simp only[List.mem_append,List.mem_cons,List.mem_nil_iff,or_false] at h ⊢;rcases h with (h | h) | h
  .exact .inl h
  .exact .inr (.inr h)
  .exact .inr (.inl h)
theorem zug {rs:List Road} {k:Int} {r:Road} (T:Taut rs) (hr:zaH rs k=some r) {p q M:Int} (w:Wk rs p q M):(∃L,L<=M/\Wk 062 p q L)\/∃A B,Wk rs p r.1 A/\Wk rs r.2.1 q B/\A+r.2.2+B<=M:=by
 have ms:=znO hr;have T':Taut (zaO rs k.toNat++[r]):=fun p L w=>T p L (w.sub fun x hx=>(ms x).mpr hx)
 have Ts:Taut 062:=fun p L w=>T' p L (w.sub fun x hx=>List.mem_append_left _ hx)
 rcases Wk.more ((zmO Ts).mp T') (w.sub fun x hx=>(ms x).mp hx) with h | ⟨A,B,u,v,e⟩
 .exact .inl h
 .exact .inr ⟨A,B,u.sub fun x hx=>(ms x).mpr 074,v.sub fun x hx=>(ms x).mpr 074,e⟩
def onO (n:Int) (rs:List Road) (p q:Int) (r:Road):Option Int:=byC (cel n rs p r.1) r.2.2 (cel n rs r.2.1 q)
theorem zux {n p q:Int} {rs:List Road} {r:Road} (ok:zay n rs) (T:Taut rs) (hp:0<=p/\p < n) (hq:0<=q/\q < n) (hr:r∈rs):IsO (fun L=>∃A B,Wk rs p r.1 A/\Wk rs r.2.1 q B/\L=A+r.2.2+B) (onO n rs p q r):=
 (zbC ok T hp (ok.rd r hr).1).by (zbC ok T (ok.rd r hr).2.1 hq) _
theorem zep {n p q k:Int} {rs:List Road} {r:Road} (ok:zay n rs) (T:Taut rs) (hp:0<=p/\p < n) (hq:0<=q/\q < n) (hr:zaH rs k=some r):cel n rs p q=lO (onO n rs p q r) (cel n 062 p q):=by
 have hm:=zbp hr;refine (zbC ok T hp hq).eq ((zux ok T hp hq hm).or (zbC (F29.zfc ok _) (F29.zdN T _) hp hq)) (fun L w=>?_) (fun L z=>?_)
 .rcases zug T hr w with ⟨M,l,u⟩ | ⟨A,B,u,v,l⟩
  .exact ⟨M,l,.inr u⟩
  .exact ⟨_,l,.inl ⟨A,B,u,v,rfl⟩⟩
 .rcases z with ⟨A,B,u,v,rfl⟩ | u
  .exact ⟨_,Int.le_refl _,(u.trans ((Wk.one hm).trans v)).cast ∅⟩
  .exact ⟨L,Int.le_refl _,u.sub fun x hx=>F29.ze5 hx⟩
section
variable {n p q:Int} {rs:List Road} {m:Int->Int}
end
section
variable {n k b:Int} {rs:List Road} {r:Road}
end
section
variable {n k b p q:Int} {rs:List Road} {r:Road}
end
end F32
namespace F32
open F30 (cel detL zav zaQ zaW detE)
open F29 (zaO up)
theorem zqq {rs:List Road} {k j:Int} (hk:0<=k/\k < (rs.length:Int)) (hj:0<=j):zaH 062 j=zaH rs (up k j):=by
 have l:(zaO rs k.toNat).length=rs.length - 1:=by
  unfold F29.zaO;simp only[List.length_append,List.length_take,List.length_drop];omega
 unfold zaH;rw[l];unfold F29.up F29.zaO
 by_cases h:j < k
 .rw[if_pos h,if_pos ∅,if_pos ∅,List.getElem?_append_left (by rw[List.length_take];omega),List.getElem?_take_of_lt ∅]
 .rw[if_neg h]
  by_cases z:j+1 < rs.length
  .rw[if_pos ∅,if_pos ∅,List.getElem?_append_right (by rw[List.length_take];omega),List.getElem?_drop,List.length_take]
   congr 1
   omega
  .rw[if_neg ∅,if_neg ∅]
theorem ups {rs:List Road} {k:Int} (hk:0<=k/\k < (rs.length:Int)) {W:List Int} (h:zkJ 062 W):zkJ rs (W.map (up k))/\zaK rs (W.map (up k))=zaK 062 W:=by
 refine ⟨fun j hj=>?_, ?_⟩
 .obtain ⟨i,hi,rfl⟩:=List.mem_map.mp hj;obtain ⟨h0,h1⟩:=h i hi;obtain ⟨r,hr,_⟩:=zeg h0 h1;rw[zqq hk h0] at hr;obtain ⟨a,b,_⟩:=za9 hr;exact ⟨a,b⟩
 .unfold zaK;rw[List.map_map]
  congr 1
  apply List.map_congr_left;intro j hj;unfold zgj;rw[Function.comp,zqq hk (h j hj).1]
section
variable {N:PyData}
end
theorem zht {ds:List PyData} {a:Int} (h0:0<=a) (h1:a<=ds.length):fSl (.d 050) none (some a)=some (.l ((ds.take a.toNat).map O.d)):=znb h0 h1
theorem zf7 {ds:List PyData} {a:Int} (h0:0<=a) (h1:a<=ds.length):fSl (.d 050) (some a) none=some (.l ((ds.drop a.toNat).map O.d)):=zlH h0 h1
section
variable {m on off:Option Int}
end
section
variable {N D1 D2 D3 D4:PyData} {p q k s g l:Int} {m on off c1 c2 hm:Option Int} {o1s:List O} {o2 o3 o4 x:O} {R:PyData} {ts ns fs:List O} {u v:Bool} {Rt':Rt}
end
section
variable {N:PyData} {p q k s g l v:Int} {m on off c1 c2:Option Int} {x t0:O} {f2 f3:List O}
end
section
variable {n p q k:Int} {rs:List Road} {r:Road}
theorem zbf {d:Int} (ok:zay n rs) (T:Taut rs) (hp:0<=p/\p < n) (hq:0<=q/\q < n) (h:Dist rs p q d):cel n rs p q=some d:=(zeX ok T hp hq).mpr h
theorem zbO (ok:zay n rs) (T:Taut rs) (hp:0<=p/\p < n) (hq:0<=q/\q < n) (h:∀M,¬Wk rs p q M):cel n rs p q=none:=(zeZ ok T hp hq).mpr h
theorem zoV (a:Str) (W hs:List Int):fz (.t [.d (.str a),zad W,zad hs])=some (.tuple [.str a,zai W,zai hs]):=by
 have f1:=zbK W;have f2:=zbK hs;simp[fz,fzs,f1,f2,zai]
end
end F32
namespace F32
open F30 (cel detL zav zaQ zaW detE detD detO)
open F29 (zaO up)
section
variable {N LD GD DD D2:PyData} {n p q c z:Int} {P0 P1 P2 hs ro go det due ts ns ld gd ad:List O} {la:List PyData} {u11 u12:O} {q1 q2 q3:Bool}
end
section
variable {ns:List Int} {N P:PyData} {cell a b k h:Int} {w2 w3 z9:O} {ps ts us:List O} {x y:Bool}
end
section
variable {ns:List Int} {N P:PyData} {cell a b k lv:Int} {z7 z8 z9:O} {P0 P1 ps ts us ts' us':List O} {x y:Bool} {bp len:Int} {la:List PyData}
end
end F32
end My
namespace L2
open PySem PySem.Spec PySem.Calls PySem.W PyProof.Rows
def ItV (a:Addr) (n:Nat):It:=
 ⟨fun i H=>∃xs x,H a=some 098/\xs.length=n/\xs.reverse[i]? = some x,fun i H x H'=>H'=H/\∀xs,H a=some 098->xs.length=n->xs.reverse[i]? = some x,fun i H=>i=n⟩
theorem zs1 {P:Program} {w:World} {K:PySem.W.Frag} {tg:Expr} (a it:Addr) (n:Nat):Turn P w K tg (ItV a n) [it] it (fun i h=>h.IsRevIter it a ((n:Int) - 1 - i)) where
 mem:=by simp
 obj:=fun i h st b hb=>by
  have e:b=it:=by simpa using hb
  subst e;obtain ⟨o,e,c,d⟩:=st;exact ⟨o,e,fun v z=>by rw[d] at z;cases z⟩
 keep:=fun i h h' st k=>st.at fun o e=>k it (by simp) o e
 item:=by
  intro X hP hw hK hc i pins s σ H E I hf st hg;subst hP hw hK;obtain ⟨xs,x,hq,hn,hx⟩:=hg;obtain ⟨its,rv,p,hz⟩:=I.list (SqL.of hq);have hi:i < xs.length:=by
   have:=(List.getElem?_eq_some_iff.mp hx).1
   rwa [List.length_reverse] at this
  have hx':xs[n - 1 - i]? = some x:=by
   rw[List.getElem?_reverse hi,hn] at hx;exact hx
  obtain ⟨u,hu,ru⟩:=rv.get hx';obtain ⟨f0,f1,f2,f3,f4,f5⟩:=hf it (by simp);have ec:(n:Int) - 1 - i=((n - 1 - i:Nat):Int):=by omega
  rw[ec] at st;refine wpAny_pyNext_rev_item st p.isList (x:=u) (by simpa using hu) fun h' st' sb=>?_
  have I1:Inv X pins σ H { s with heap:=h' }:=I.turned (t':=s.toks) (fun b o hb e=>(sb.2 b hb).trans e) f0 f1 f3 f4 f5;rw[show ((n - 1 - i:Nat):Int) - 1=(n:Int) - 1 - ((i+1:Nat):Int) by omega] at st';obtain ⟨o,e,c,d⟩:=id st';exact ⟨u,rfl,znD (s:={ s with heap:=h' }) e c d (by decide) ⟨x,H,I1,ru,⟨rfl,fun ys hy _=>by rw[hq] at hy;cases hy;exact hx⟩,st',fun b hb=>(hf b hb).1⟩⟩
 done:=by
  intro X hP hw hK hc i pins s σ H E I hf st hg;subst hP hw hK;have hg:i=n:=hg;subst hg;obtain ⟨f0,f1,f2,f3,f4,f5⟩:=hf it (by simp);rw[show (i:Int) - 1 - i=-1 by omega] at st;exact wpAny_pyNext_rev_end (I.ok.hd hc) st fun h' eb=>⟨rfl,I.turned (t':=s.toks) (fun b o hb e=>eb b o hb e) f0 f1 f3 f4 f5⟩
 self:=fun _ _ _ _ _ st h=>wpAny_pyIter_revIter st h
def iV (ta:TA):TI:=fun σ H R=>ta σ H fun vs H1=>∃l xs,vs=[.ref l]/\H1 l=some 098/\R (ItV l xs.length) H1
theorem pi_V {X:Cx} {tg a:Expr} {ta:TA} {p pos:Pos} (hg:Gl X "reversed") (hm:X.mg "reversed"=none) (ha:PA X [a] ta) (hs:starEach [a] X.env=[(false,eval a X.env)]:=by rfl) :
  PI X tg (.Call (.Name "reversed" p) [a] [] pos) (iV ta):=by
 intro pins s σ H R I h;refine Call_ (zgs I hg hm boot_reversed 064);obtain ⟨l,xs,e,hq,q⟩:=q1;subst e;obtain ⟨u,rfl,ru⟩:=zgf r1;cases ru;obtain ⟨its,rv,pl,hz⟩:=I1.list (SqL.of hq);have hl:=rv.length;refine call_reversed_list pl.isList ?_;have st:Heap.IsRevIter (s1.heap.push (revObj l (its.toArray.size - 1))) s1.heap.objs.size l ((xs.length:Int) - 1 - ((0:Nat):Int)):=by
  refine ⟨_,Heap.get?_push_size _ rfl,rfl, ?_⟩
  show Data.fields #[Value.ref l,rawInt _]=_
  rw[List.size_toArray,<-hl,show (xs.length:Int) - 1 - ((0:Nat):Int)=xs.length - 1 by omega]
 refine wpAny_pyIter_revIter (s:={ s1 with heap:=s1.heap.push (revObj l (its.toArray.size - 1)) }) st ?_;refine ⟨s1.heap.objs.size,[s1.heap.objs.size],_,ItV l xs.length,H1,rfl,I1.kept (t':=s1.toks) (fun b o e=>Heap.get?_push_of_some _ e),zs1 l _ _,st,fun b hb=>?_,q⟩;obtain rfl:b=s1.heap.objs.size:=by simpa using hb
 exact I1.fpOk 022 (I1.hok.fresh 022)
def itV (A:EF):Rho->Re (List O):=fun ρ=>(A ρ).bind fun r ρ1 q=>match coe ρ1 r with
 | some (o,ρ2)=>match fz o with
  | some (.list ds)=>.ok (ds.reverse.map O.d) ρ2 q
  | _=>.bad
 | none=>.bad
theorem Dns.getRev {H:Hp} {W:Addr->Prop} {xs:List V} {ds:List PyData} (h:Dns H W xs ds) {i:Nat} {x:V} (hx:xs.reverse[i]? = some x):∃d,ds.reverse[i]? = some d/\Dn H W x d:=by
 have hi:i < xs.length:=by
  have:=(List.getElem?_eq_some_iff.mp hx).1
  rwa [List.length_reverse] at this
 have hl:=h.length;rw[List.getElem?_reverse hi] at hx;obtain ⟨d,e1,e2⟩:=h.getV hx;exact ⟨d,by rw[List.getElem?_reverse ∅,<-hl];exact e1,e2⟩
theorem zpo {X:Cx} {E:XK} {L:List Nat} {tg e:Expr} {body:List Stmt} {A:EF} {G:GF} {S:SF} {p cpos pos:Pos} (hp:PassesOwn 000 X.A X.env X.xe) (hc:X.calm=true) (hgl:Gl X "reversed") (hm:X.mg "reversed"=none) (hi:VR X E e A) (hg:VG X L tg G) (hb:VSs X E L body S)
  (hst:starEach [e] X.env=[034]:=by rfl)
  (hs:∀x,foldedSetIterable (.Call (.Name "reversed" p) [e] [] cpos) X.env x=pure x:=by intro _;rfl):VS X E L (.For tg (.Call (.Name "reversed" p) [e] [] cpos) body [] pos) (sFor (itV A) G S):=(zjK hp hc (pi_V hgl hm (zdW hi ze4 hst) hst) hg hb hs).imp fun D σ H h=>by
 obtain ⟨W,ρ,f,ok,q⟩:=h.aft;refine zk7 (mk:=fun ds=>ds.reverse.map O.d) (T:=fun items=>forF G S items) ok q fun a xs ds H' W' f' ρ' s m ha na dn q=>⟨a,xs,rfl,ha, ?_⟩
 have hl:=dn.length;refine zf8 (items:=ds.reverse.map O.d) (.next s m fun _ z=>z) (fun i H2 W2 ⟨_,mm⟩ hi=>?_) (fun H2 W2 ⟨_,mm⟩=>?_) (fun i H2 W2 x H3 ⟨_,mm⟩ dd hi y=>?_) (q.step m .refl)
 .rw[List.length_map,List.length_reverse] at hi;have hx:i < xs.reverse.length:=by rw[List.length_reverse];omega
  exact ⟨xs,xs.reverse[i],(mm.d a _ ha na).1,rfl,List.getElem?_eq_getElem hx⟩
 .show (ds.reverse.map O.d).length=xs.length
  rw[List.length_map,List.length_reverse,hl]
 .obtain ⟨rfl,y⟩:=y;have hx:=y xs (mm.d a _ ha na).1 rfl;obtain ⟨d,e1,e2⟩:=Dns.getRev dn hx;exact ⟨.refl,.d d,by rw[List.getElem?_map,e1];rfl,.d (e2.on mm.d)⟩
end L2
noncomputable section
namespace My
open PySem L2
def zbV:SF:=(sSeq (sAsg coe (zah [false] zaJ (zac (zaA coes .l (zac (eIx (zaa 1) (zaa 5)) 0001)) aNil)) (gtN 8))
  (sIf (gAnd (tst (e2 (zaa 8) 013 (fIs true))) (gOr (tst (e2 (eIx (zaa 2) (zaa 6)) 013 (fIs false))) (tst (e2 (zaa 8) (eIx (zaa 2) (zaa 6)) fLt)))) (sSeq (sSub coe (zaa 8) (zaa 2) (zaa 6))
  (sSub coe (zaa 4) (zaa 3) (zaa 6))) sNil))
def zeG:SF:=(sSeq (sAsg coe (e2 (zaA coes .l (zac 013 aNil)) (eB 047 (f1 fLen)) fMul) (gtN 2))
  (sSeq (sAsg coe (e2 (zaA coes .l (zac 013 aNil)) (eB 047 (f1 fLen)) fMul) (gtN 3))
  (sSeq (sFor (itE (zaa 0)) (gtT 031) zbV)
  (sRet mov (zaA movs mkT (zac (zaa 2) (zac (zaa 3) aNil)))))))
def zbv:FC:=runF 06 9 zeG
def za4:SF:=(sSeq (zbd (eApp (zaa 3) (eIx (zaa 5) (zaa 4))))
  (sAsg coe (eIx (eIx (zaa 0) (eIx (zaa 5) (zaa 4))) ↥0) (gtN 4)))
def zeV:SF:=(sSeq (sAsg coe (zaA coes .l aNil) (gtN 3))
  (sSeq (sAsg coe (zaa 2) (gtN 4))
  (sSeq (sFor (itV (zaa 1)) (gtN 5) za4)
  (sRet mov (e1 (zaa 3) fRev)))))
def zbN:FC:=runF 05 6 zeV
def zbQ:EF:=(eIf (tst (e2 (zaa 0) (zaa 1) (fEq false))) ↥0 013)
def zc2:SF:=(sSeq (sAsg coe (zah 06 zbv (zac (zaa 5) (zac (zaa 6) aNil))) (gtT (zaf (gtN 6) (zaf (gtN 9) zaV))))
  (zbd (eApp (zaa 7) (zaa 9))))
def zeM:SF:=(sSeq (zbd (zah 05 zat 07))
  (sSeq (sIf (gNot (zdG ↥0 (zaa 3) ↥(60) 063 063)) sBad sNil)
  (sSeq (zbd (zah [false] zaT 030))
  (sSeq (sAsg coe (zaa 0) (gtT (zaf (gtN 4) (zaf (gtN 5) zaV))))
  (sSeq (sAsg coe (eLC (itR1 (zaa 4)) [none,some 1] (gtN 0) 055 zbQ) (gtN 6))
  (sSeq (sAsg coe (zaA coes .l aNil) (gtN 7))
  (sSeq (sFor (itR1 (zaa 3)) (gtN 8) zc2)
  (sSeq (sIf (tst (e2 (eIx (zaa 6) (zaa 2)) 013 (fIs false))) (sRet mov 013) sNil)
  (sRet coe (zaA coes mkT (zac (eIx (zaa 6) (zaa 2)) (zac (zah 05 zbN (zac (zaa 5) (zac (zaa 7) 058))) aNil))))))))))))
def zas:FC:=runF 01 10 zeM
end My
end
namespace My
open PySem L2
namespace F34
open F32 (IsO lO)
inductive WkN (rs:List Road):Nat->Int->Int->Int->Prop where
 | nil (p:Int):WkN rs 0 p p 0
 | snoc {k:Nat} {p L:Int} {r:Road}:WkN rs k p r.1 L->r∈rs->WkN rs (k+1) p r.2.1 (L+r.2.2)
def get (v:List 08) (i:Int):Option Int:=(v[i.toNat]?).getD none
def zgU (far more:List 08) (r:Road):List 08:=more.set r.2.1.toNat (lO (get more r.2.1) ((get far r.1).map (·+r.2.2)))
def zfz (n:Nat) (rs:List Road) (far:List 08):List 08:=rs.foldl (zgU far) (List.replicate n none)
def start (n:Nat) (one:Int):List 08:=(List.replicate n none).set one.toNat (some 0)
def gone (n:Nat) (rs:List Road) (one:Int):Nat->List 08
 | 0=>start n one
 | k+1=>zfz n rs (gone n rs one k)
theorem zgS (far more:List 08) (r:Road):(zgU far more r).length=more.length:=by simp[zgU]
theorem zkr (far:List 08):∀(rs:List Road) (more:List 08),(rs.foldl (zgU far) more).length=more.length
 | [],_=>rfl
 | r::rs,more=>by rw[List.foldl_cons,zkr far rs,zgS]
theorem zhC (n:Nat) (rs:List Road) (one:Int):∀k,(gone n rs one k).length=n
 | 0=>by simp[gone,start]
 | k+1=>by simp[gone,zfz,zkr]
theorem zgL {v:List 08} {i j:Int} {x:Option Int} (hi:0<=i/\i < v.length) (hj:0<=j):get (v.set i.toNat x) j=if j=i then x else get v j:=by
 unfold get
 by_cases h:j=i
 .subst h;rw[if_pos rfl,List.getElem?_set_self ∅,Option.getD_some]
 .rw[if_neg h,List.getElem?_set_ne ∅]
theorem zhF (n:Nat) (i:Int):get (List.replicate n none) i=none:=by
 unfold get;rw[List.getElem?_replicate];split<;>rfl
theorem zni {n:Nat} {rs:List Road} {one v:Int} (h1:0<=one/\one < n) (hv:0<=v/\v < n):IsO (WkN rs 0 one v) (get (start n one) v):=by
 unfold start;rw[zgL (by simp;omega) hv.1,zhF];split
 .rename_i h;subst h;refine ⟨.nil _,fun L w=>?_⟩;cases w;omega
 .rename_i h;intro L w;cases w;exact h rfl
theorem zqg {S S':Int->Prop} {a:Option Int} (h:IsO S a) (e:∀L,S L↔S' L):IsO S' a:=by
 have:S=S':=funext fun L=>propext (e L)
 exact this ▸ h
theorem zlM {n k:Nat} {rs:List Road} {one:Int} {far:List 08} (hf:∀v,0<=v/\v < (n:Int)->IsO (WkN rs k one v) (get far v)):∀(ys xs:List Road) (more:List 08),(∀r∈ys,(0<=r.1/\r.1 < (n:Int))/\0<=r.2.1/\r.2.1 < (n:Int))->more.length=n->
  (∀v,0<=v/\v < (n:Int)->IsO (fun L=>∃r∈xs,r.2.1=v/\∃M,WkN rs k one r.1 M/\L=M+r.2.2) (get more v))->
  ∀v,0<=v/\v < (n:Int)->IsO (fun L=>∃r∈xs++ys,r.2.1=v/\∃M,WkN rs k one r.1 M/\L=M+r.2.2) (get (ys.foldl (zgU far) more) v)
 | [],xs,more,_,_,h,v,hv=>by
  rw[List.append_nil];exact h v hv
 | y::ys,xs,more,hi,hl,h,v,hv=>by
  obtain ⟨y1,y2⟩:=hi y List.mem_cons_self;have e:xs++y::ys=(xs++[y])++ys:=by simp
  rw[e,List.foldl_cons];refine zlM hf ys (xs++[y]) (zgU far more y) (fun r hr=>hi r (List.mem_cons_of_mem _ hr)) (by rw[zgS];exact hl) (fun u hu=>?_) v hv;unfold zgU;rw[zgL (by rw[hl];omega) hu.1]
  by_cases c:u=y.2.1
  .rw[if_pos c];subst c;refine zqg ((h _ y2).or ((hf _ y1).add y.2.2)) fun L=>⟨?_, ?_⟩
   .rintro (⟨r,hr,a,b⟩ | ⟨A,w,a⟩)
    .exact ⟨r,List.mem_append_left _ hr,a,b⟩
    .exact ⟨y,List.mem_append_right _ (List.mem_singleton_self _),rfl,A,w,a⟩
   .rintro ⟨r,hr,a,M,w,b⟩
    rcases List.mem_append.mp hr with hr | hr
    .exact .inl ⟨r,hr,a,M,w,b⟩
    .obtain rfl:=List.mem_singleton.mp hr;exact .inr ⟨M,w,b⟩
  .rw[if_neg c];refine zqg (h u hu) fun L=>⟨fun ⟨r,hr,z⟩=>⟨r,List.mem_append_left _ hr,z⟩, ?_⟩
   rintro ⟨r,hr,a,b⟩
   rcases List.mem_append.mp hr with hr | hr
   .exact ⟨r,hr,a,b⟩
   .obtain rfl:=List.mem_singleton.mp hr;exact absurd a.symm c
theorem zch {n:Int} {rs:List Road} {one:Int} (ok:zay n rs) (h1:0<=one/\one < n):∀(k:Nat) (v:Int),0<=v/\v < n->IsO (WkN rs k one v) (get 072 v)
 | 0,v,hv=>zni ∅ ∅
 | k+1,v,hv=>by
  have n0:=ok.n0
  have:=zlM (n:=n.toNat) (k:=k) (rs:=rs) (one:=one) (far:=gone n.toNat rs one k) (fun u hu=>zch ok h1 k u ∅) rs [] (List.replicate n.toNat none) (fun r hr=>by
   obtain ⟨a,b,_⟩:=ok.rd r hr;exact ⟨by omega,by omega⟩) (by simp) (fun u hu=>by
   rw[zhF]
   rintro L ⟨r,hr,_⟩
   cases hr) v ∅
  refine zqg this fun L=>⟨?_,fun w=>?_⟩
  .rintro ⟨r,hr,rfl,M,w,rfl⟩
   exact .snoc w hr
  .cases w with
   | snoc w hr=>exact ⟨_,hr,rfl,_,w,rfl⟩
theorem zjh {v:List 08} {i:Int}:v.set i.toNat (get v i)=v:=by
 unfold get;apply List.ext_getElem?;intro j
 by_cases h:i.toNat=j
 .subst h
  by_cases z:i.toNat < v.length
  .rw[List.getElem?_set_self z,List.getElem?_eq_getElem z,Option.getD_some]
  .rw[List.getElem?_eq_none (by simp;omega),List.getElem?_eq_none ∅]
 .rw[List.getElem?_set_ne h]
def entR (far:List 08) (p:List 08×List 08) (i:Int) (r:Road):List 08×List 08:=
 match (get far r.1).map (·+r.2.2) with
 | none=>p
 | some x=>match get p.1 r.2.1 with
  | none=>(p.1.set r.2.1.toNat (some x),p.2.set r.2.1.toNat (some i))
  | some c=>if x < c then (p.1.set r.2.1.toNat (some x),p.2.set r.2.1.toNat (some i)) else p
theorem zop (far:List 08) (p:List 08×List 08) (i:Int) (r:Road):(entR far p i r).1=zgU far p.1 r:=by
 unfold entR zgU
 cases h:(get far r.1).map (·+r.2.2) with
 | none=>
  dsimp only
  cases c:get p.1 r.2.1 with
  | none=>rw[show lO none none=get p.1 r.2.1 from c.symm,zjh]
  | some d=>rw[show lO (some d) none=get p.1 r.2.1 from c.symm,zjh]
 | some x=>
  dsimp only
  cases c:get p.1 r.2.1 with
  | none=>rfl
  | some d=>
   dsimp only;have e:lO (some d) (some x)=if x < d then some x else some d:=rfl
   rw[e];split
   .rfl
   .rw[<-c,zjh]
def zgV (far:List 08):List Road->Int->List 08×List 08->List 08×List 08
 | [],_,p=>p
 | r::rs,i,p=>zgV far rs (i+1) (entR far p i r)
theorem zmQ (far:List 08):∀(rs:List Road) (i:Int) (p:List 08×List 08),(zgV far rs i p).1=rs.foldl (zgU far) p.1
 | [],_,_=>rfl
 | r::rs,i,p=>by rw[zgV,zmQ far rs,zop,List.foldl_cons]
def EI (rs:List Road) (far:List 08) (p:List 08×List 08):Prop:=p.2.length=p.1.length/\∀v x,0<=v->get p.1 v=some x->∃k r y,get p.2 v=some k/\zaH rs k=some r/\r.2.1=v/\get far r.1=some y/\x=y+r.2.2
theorem EI.put {rs:List Road} {far:List 08} {p:List 08×List 08} {i y:Int} {r:Road} (h:EI rs far p) (hr:zaH rs i=some r) (h0:0<=r.2.1/\r.2.1 < p.1.length) (hy:get far r.1=some y):EI rs far (p.1.set r.2.1.toNat (some (y+r.2.2)),p.2.set r.2.1.toNat (some i)):=by
 obtain ⟨l,h⟩:=h;refine ⟨by simp[l],fun v x hv e=>?_⟩;dsimp only at e ⊢;rw[zgL h0 hv] at e;rw[zgL (by rw[l];exact h0) hv]
 by_cases c:v=r.2.1
 .rw[if_pos c] at e ⊢;cases e;exact ⟨i,r,y,rfl,hr,c.symm,hy,rfl⟩
 .rw[if_neg c] at e ⊢;exact h v x hv e
theorem EI.step {rs:List Road} {far:List 08} {p:List 08×List 08} {i:Int} {r:Road} (h:EI rs far p) (hr:zaH rs i=some r) (h0:0<=r.2.1/\r.2.1 < p.1.length):EI rs far (entR far p i r):=by
 unfold entR
 cases e:get far r.1 with
 | none=>exact h
 | some y=>
  have:=h.put hr h0 e
  dsimp only[Option.map_some]
  cases c:get p.1 r.2.1 with
  | none=>exact this
  | some d=>
   dsimp only;split
   .exact this
   .exact h
theorem zj5 (far:List 08) (p:List 08×List 08) (i:Int) (r:Road):(entR far p i r).1.length=p.1.length:=by rw[zop,zgS]
def ze2 (n:Nat) (rs:List Road) (far:List 08):List 08×List 08:=zgV far rs 0 (List.replicate n none,List.replicate n none)
theorem zjw (n:Nat) (rs:List Road) (far:List 08):(ze2 n rs far).1=zfz n rs far:=zmQ far rs 0 _
theorem zjI {n:Nat} {rs:List Road} {far:List 08}:∀(ys:List Road) (i:Nat) (p:List 08×List 08),(∀j r,ys[j]? = some r->rs[i+j]? = some r/\0<=r.2.1/\r.2.1 < (n:Int))->p.1.length=n->EI rs far p->EI rs far (zgV far ys i p)
 | [],_,_,_,_,h=>h
 | r::ys,i,p,hs,hl,h=>by
  obtain ⟨a,b,c⟩:=hs 0 r rfl;rw[zgV];have e:((i:Int)+1)=((i+1:Nat):Int):=by omega
  rw[e];refine zjI (n:=n) ys (i+1) _ (fun j r' hj=>?_) (by rw[zj5];exact hl) (h.step (zfH a) ⟨b,by rw[hl];exact c⟩)
  have:=hs (j+1) r' hj
  rwa [show i+(j+1)=i+1+j by omega] at this
theorem zkc {n:Int} {rs:List Road} (ok:zay n rs) (far:List 08):EI rs far (ze2 n.toNat rs far):=by
 have n0:=ok.n0;refine zjI (n:=n.toNat) rs 0 _ (fun j r hj=>?_) (by simp) ⟨by simp,fun v x _ e=>?_⟩
 .obtain ⟨_,b,_⟩:=ok.rd r (List.mem_of_getElem? hj);rw[Nat.zero_add];exact ⟨hj,by omega,by omega⟩
 .rw[zhF] at e;cases e
def zce (n:Nat) (rs:List Road) (one:Int):Nat->List (List 08)
 | 0=>[]
 | k+1=>zce n rs one k++[(ze2 n rs (gone n rs one k)).2]
theorem zhh (n:Nat) (rs:List Road) (one:Int):∀k,(zce n rs one k).length=k
 | 0=>rfl
 | k+1=>by rw[zce,List.length_append,zhh n rs one k];rfl
theorem zqj {n:Int} {rs:List Road} {one v x:Int} (ok:zay n rs) (k:Nat) (hv:0<=v/\v < n) (h:get (gone n.toNat rs one (k+1)) v=some x):∃j r y,get (ze2 n.toNat rs 072).2 v=some j/\zaH rs j=some r/\r.2.1=v/\get 072 r.1=some y/\x=y+r.2.2:=
 (zkc ok 072).2 v x hv.1 (by rw[zjw];exact h)
theorem zqp (v:List 08) (i:Nat) (c:Option Int):(v.map cO).set i (cO c)=(v.set i c).map cO:=by rw[List.map_set]
theorem zmC {A:EF} {ρ ρ1 ρ2:Rho} {rv:Rv} {q:Bool} {k b:Nat} {i:Int} {v:List 08} {c:Option Int} (hA:A ρ=.ok rv ρ1 q) (ht:coe ρ1 rv=some (.d (oD c),ρ2)) (hk:ρ2[k]? = some (rowO v)) (hb:ρ2[b]? = some ⇑i) (hi:0<=i/\i < v.length) :
  sSub coe A (zaa k) (zaa b) ρ=.nx (ρ2.set k (rowO (v.set i.toNat c))):=by
 have n1:zaa k ρ2=.ok (.at k []) ρ2 true:=by unfold zaa;rw[hk];rfl
 have vb:vn ρ2 (.at b [])=some ⇑i:=by simp[vn,vw,hb,sub]
 have n2:eSc decI (zaa b) ρ2=.ok i ρ2 true:=zaC (F24.zen hb) vb rfl;have ix:ixN v.length i=some i.toNat:=zik hi.1 hi.2;have pu:L2.zeI ρ2 (.at k []) (fun os=>(ixN os.length i).map fun j=>os.set j (.d (oD c)))=some (ρ2.set k (rowO (v.set i.toNat c))):=by
  rw[zi3,hk];unfold rowO;simp only[List.length_map,ix,Option.map_some];rw[<-zgY,zqp]
 unfold sSub;rw[hA];dsimp only;rw[ht];dsimp only;rw[n1];dsimp only;rw[n2];dsimp only;rw[if_pos (by simp[pok]),pu]
theorem ztT (c:Option Int) (l:Int):zaJ [.l [.d (oD c),⇑l]]=.ok (.d (oD (c.map (·+l)))) []:=by
 have fzr:fz (.l [.d (oD c),⇑l])=some (rowD [c,some l]):=by rw[zh8];rfl
 have fi:fIn false 042 (.l [.d (oD c),⇑l])=some (.d (.bool (decide (none∈[c,some l])))):=by
  rw[<-zgI [c,some l]];unfold fIn;rw[fzr,fz_d (rowD [c,some l])]
 cases c with
 | none=>
  have z:decide ((none:Option Int)∈[none,some l])=true:=by simp
  rw[z] at fi;generalize [O.d (oD none),⇑l]=R at *;exact zaY rfl (L2.zdQ (if_t 027 (zaL rfl rfl))) rfl
 | some a=>
  have z:decide (none∈[some a,some l])=false:=by simp
  have zs:f1 fSum [.l [.d (oD (some a)),⇑l]]=some ⇑(a+l):=by
   have:zsOf (.l [.d (oD (some a)),⇑l])=some [a,l]:=rfl
   show (zsOf (.l [.d (oD (some a)),⇑l])).map (fun ns=>O.d (PyData.int ns.sum))=_
   rw[this];simp
  rw[z] at fi;generalize [O.d (oD (some a)),⇑l]=R at *;exact zaY rfl (L2.zag (if_f 027 rfl) (zaL (zgT 009 rfl zs) rfl)) rfl
theorem rd_D {ρ:Rho} {k b:Nat} {v:List 08} {i:Int} (hk:ρ[k]? = some (.d (rowD v))) (hb:ρ[b]? = some ⇑i) (hi:0<=i/\i < v.length):eIx (zaa k) (zaa b) ρ=.ok (.own (.d (oD (get v i)))) ρ true:=by
 have vb:vn ρ (.at b [])=some ⇑i:=by simp[vn,vw,hb,sub]
 have g:gIx ρ (.at k []) i=some (.own (.d (oD (get v i)))):=by
  refine zg4 hk (j:=i.toNat) (zd5 ⟨hi.1,by simpa using hi.2⟩) ?_;have hl:i.toNat < v.length:=by omega
  unfold get;rw[List.getElem?_map,List.getElem?_eq_getElem hl,Option.getD_some,zh8];rfl
 exact zbt (q1:=true) (q2:=true) (F24.zen hk) (zaC (F24.zen hb) vb rfl) (by simp[pok]) g
theorem rd_O {ρ:Rho} {k b:Nat} {v:List 08} {i:Int} (hk:ρ[k]? = some (rowO v)) (hb:ρ[b]? = some ⇑i) (hi:0<=i/\i < v.length):eIx (zaa k) (zaa b) ρ=.ok (.own (.d (oD (get v i)))) ρ true:=by
 have vb:vn ρ (.at b [])=some ⇑i:=by simp[vn,vw,hb,sub]
 have n1:zaa k ρ=.ok (.at k []) ρ true:=by unfold zaa;rw[hk];rfl
 have hl:i.toNat < v.length:=by omega
 have g:gIx ρ (.at k []) i=some (.own (.d (oD (get v i)))):=by
  unfold rowO at hk;refine zhE ?_ hi.1 (by simp;omega) hk;unfold get;rw[List.getElem?_map,List.getElem?_eq_getElem hl,Option.getD_some,<-zgY];rfl
 exact zbt (q1:=true) (q2:=true) n1 (zaC (F24.zen hb) vb rfl) (by simp[pok]) g
theorem zdm {V W:TF} {ρ ρ1:Rho} {q1:Bool} (h:V ρ=.ok false ρ1 q1):gAnd V W ρ=.ok false ρ1 (q1&&true):=zbX h rfl
theorem zfF (a:Option Int):fIs false (.d (oD a)) 042=some (.d (.bool (decide (a=none)))):=by cases a<;>rfl
theorem zle {w0 z8:O} {far:List 08} {p:List 08×List 08} {i:Int} {r:Road} (h1:0<=r.1/\r.1 < far.length) (h2:0<=r.2.1/\r.2.1 < p.1.length) (hl:p.2.length=p.1.length) :
  ∃z,zbV [w0,.d 080,rowO p.1,rowO p.2,⇑i,⇑r.1,⇑r.2.1,⇑r.2.2,z8]=.nx [w0,.d 080,rowO (entR far p i r).1,rowO (entR far p i r).2,⇑i,⇑r.1,⇑r.2.1,⇑r.2.2,z]:=by
 have r1:=rd_D (ρ:=[w0,.d 080,rowO p.1,rowO p.2,⇑i,⇑r.1,⇑r.2.1,⇑r.2.2,z8]) (k:=1) (b:=5) rfl rfl h1;have su:=ztT (get far r.1) r.2.2;have sc:=F30.zfB ((get far r.1).map (·+r.2.2));have s1:(sAsg coe (zah [false] zaJ (zac (zaA coes .l (zac (eIx (zaa 1) (zaa 5)) 0001)) aNil)) (gtN 8)) [w0,.d 080,rowO p.1,rowO p.2,⇑i,⇑r.1,⇑r.2.1,⇑r.2.2,z8]=.nx [w0,.d 080,rowO p.1,rowO p.2,⇑i,⇑r.1,⇑r.2.1,⇑r.2.2,.d (oD ((get far r.1).map (·+r.2.2)))]:=
  zap (zaN (zab (zaw (zab r1 009 rfl) rfl 079 rfl) rfl rfl) rfl su (by simp[sc])) rfl rfl
 refine ⟨.d (oD ((get far r.1).map (·+r.2.2))),L2.zag s1 ?_⟩;have r2:=rd_O (ρ:=[w0,.d 080,rowO p.1,rowO p.2,⇑i,⇑r.1,⇑r.2.1,⇑r.2.2,.d (oD ((get far r.1).map (·+r.2.2)))]) (k:=2) (b:=6) rfl rfl h2;unfold entR
 cases hx:(get far r.1).map (·+r.2.2) with
 | none=>exact if_f (zdm 0019) rfl
 | some x=>
  rw[hx] at r2;have pA:(sSub coe (zaa 8) (zaa 2) (zaa 6)) [w0,.d 080,rowO p.1,rowO p.2,⇑i,⇑r.1,⇑r.2.1,⇑r.2.2,.d (oD (some x))]=.nx [w0,.d 080,rowO (p.1.set r.2.1.toNat (some x)),rowO p.2,⇑i,⇑r.1,⇑r.2.1,⇑r.2.2,.d (oD (some x))]:=zmC (ρ1:=[w0,.d 080,rowO p.1,rowO p.2,⇑i,⇑r.1,⇑r.2.1,⇑r.2.2,.d (oD (some x))]) (ρ2:=[w0,.d 080,rowO p.1,rowO p.2,⇑i,⇑r.1,⇑r.2.1,⇑r.2.2,.d (oD (some x))]) (c:=some x) (v:=p.1) rfl rfl rfl rfl h2;have pB:(sSub coe (zaa 4) (zaa 3) (zaa 6)) [w0,.d 080,rowO (p.1.set r.2.1.toNat (some x)),rowO p.2,⇑i,⇑r.1,⇑r.2.1,⇑r.2.2,.d (oD (some x))]=.nx [w0,.d 080,rowO (p.1.set r.2.1.toNat (some x)),rowO (p.2.set r.2.1.toNat (some i)),⇑i,⇑r.1,⇑r.2.1,⇑r.2.2,.d (oD (some x))]:=zmC (ρ1:=[w0,.d 080,rowO (p.1.set r.2.1.toNat (some x)),rowO p.2,⇑i,⇑r.1,⇑r.2.1,⇑r.2.2,.d (oD (some x))]) (ρ2:=[w0,.d 080,rowO (p.1.set r.2.1.toNat (some x)),rowO p.2,⇑i,⇑r.1,⇑r.2.1,⇑r.2.2,.d (oD (some x))]) (c:=some i) (v:=p.2) rfl rfl rfl rfl (by rw[hl];exact h2);have put:=L2.zag pA pB;have t8:(tst (e2 (zaa 8) 013 (fIs true))) [w0,.d 080,rowO p.1,rowO p.2,⇑i,⇑r.1,⇑r.2.1,⇑r.2.2,.d (oD (some x))]=.ok true [w0,.d 080,rowO p.1,rowO p.2,⇑i,⇑r.1,⇑r.2.1,⇑r.2.2,.d (oD (some x))] true:=rfl;have tn:(tst (e2 (eIx (zaa 2) (zaa 6)) 013 (fIs false))) [w0,.d 080,rowO p.1,rowO p.2,⇑i,⇑r.1,⇑r.2.1,⇑r.2.2,.d (oD (some x))]=.ok (decide (get p.1 r.2.1=none)) [w0,.d 080,rowO p.1,rowO p.2,⇑i,⇑r.1,⇑r.2.1,⇑r.2.2,.d (oD (some x))] true:=by
   have n:=zfF (get p.1 r.2.1);exact zaq (q:=true) (zal (q1:=true) (q2:=true) r2 rfl rfl rfl rfl n) rfl
  dsimp only
  cases hc:get p.1 r.2.1 with
  | none=>
   rw[hc,decide_eq_true rfl] at tn;exact if_t (zek t8 (or_t tn)) put
  | some c=>
   rw[hc] at r2 tn;rw[decide_eq_false (by simp)] at tn;have tl:(tst (e2 (zaa 8) (eIx (zaa 2) (zaa 6)) fLt)) [w0,.d 080,rowO p.1,rowO p.2,⇑i,⇑r.1,⇑r.2.1,⇑r.2.2,.d (oD (some x))]=.ok (decide (x < c)) [w0,.d 080,rowO p.1,rowO p.2,⇑i,⇑r.1,⇑r.2.1,⇑r.2.2,.d (oD (some x))] true:=by
    have n:fLt ⇑x ⇑c=some (.d (.bool (decide (x < c)))):=rfl;exact zaq (q:=true) (zal (q1:=true) (q2:=true) rfl r2 rfl rfl rfl n) rfl
   dsimp only
   by_cases z:x < c
   .rw[if_pos z];rw[decide_eq_true z] at tl;exact if_t (zek t8 (or_f tn tl)) put
   .rw[if_neg z];rw[decide_eq_false z] at tl;exact if_f (zek t8 (or_f tn tl)) rfl
theorem zfl {w0:O} {far:List 08} {n:Nat} (hf:far.length=n):∀(ys:List Road) (i:Nat) (p:List 08×List 08) (z4 z5 z6 z7 z8:O),(∀r∈ys,(0<=r.1/\r.1 < (n:Int))/\0<=r.2.1/\r.2.1 < (n:Int))->p.1.length=n->p.2.length=n->
  ∃u4 u5 u6 u7 u8,forF (gtT 031) zbV (zcy i (ys.map zaG)) [w0,.d 080,rowO p.1,rowO p.2,z4,z5,z6,z7,z8]=.nx [w0,.d 080,rowO (zgV far ys i p).1,rowO (zgV far ys i p).2,u4,u5,u6,u7,u8]
 | [],i,p,z4,z5,z6,z7,z8,_,_,_=>⟨z4,z5,z6,z7,z8,rfl⟩
 | r::ys,i,p,z4,z5,z6,z7,z8,hr,l1,l2=>by
  obtain ⟨a,b⟩:=hr r List.mem_cons_self;obtain ⟨z,st⟩:=zle (w0:=w0) (z8:=z8) (p:=p) (i:=i) (r:=r) (far:=far) (by rw[hf];exact a) (by rw[l1];exact b) (by rw[l1,l2]);have e2:(entR far p i r).2.length=n:=by
   unfold entR;split
   .exact l2
   .split
    .simp[l2]
    .split
     .simp[l2]
     .exact l2
  obtain ⟨u4,u5,u6,u7,u8,lo⟩:=zfl hf ys (i+1) (entR far p i r) ⇑i ⇑r.1 ⇑r.2.1 ⇑r.2.2 z (fun r' h=>hr r' (List.mem_cons_of_mem _ h)) (by rw[zj5];exact l1) e2;refine ⟨u4,u5,u6,u7,u8, ?_⟩;rw[List.map_cons,zcy,forF];have g:(gtT 031) (.d (.tuple [.int i,zaG r])) [w0,.d 080,rowO p.1,rowO p.2,z4,z5,z6,z7,z8]=some [w0,.d 080,rowO p.1,rowO p.2,⇑i,⇑r.1,⇑r.2.1,⇑r.2.2,z8]:=rfl;rw[g];dsimp only;rw[st];exact lo
theorem zkM {c:Int} (c0:0<=c) (c1:c<=1000):fMul (.l [.d .none]) ⇑c=some (rowO (List.replicate c.toNat none)):=by
 rw[zff c0 c1];unfold rowO;rw[List.map_replicate];rfl
theorem zja {n:Int} {rs:List Road} {far:List 08} (ok:zay n rs) (hf:far.length=n.toNat):zbv [.d (zar rs),.d 080]=.ok (.t [rowO (ze2 n.toNat rs far).1,rowO (ze2 n.toNat rs far).2]) []:=by
 have n0:=ok.n0;have n1:=ok.n1;have ln:∀z2 z3,eB 047 (f1 fLen) [.d (zar rs),.d 080,z2,z3,.z,.z,.z,.z,.z]=.ok (.own ⇑n) [.d (zar rs),.d 080,z2,z3,.z,.z,.z,.z,.z] true:=fun z2 z3=>by
  have:f1 fLen [.d 080]=some ⇑n:=by
   unfold rowD;simp[f1,fLen,els,hf];omega
  exact zgT (q1:=true) (zab (q1:=true) (q2:=true) rfl rfl rfl) rfl this
 have mu:=zkM (c:=n) n0 ∅;obtain ⟨u4,u5,u6,u7,u8,lo⟩:=zfl (w0:=.d (zar rs)) (n:=n.toNat) (far:=far) hf rs 0 (List.replicate n.toNat none,List.replicate n.toNat none) .z .z .z .z .z (fun r hr=>by
  obtain ⟨a,b,_⟩:=ok.rd r hr;exact ⟨by omega,by omega⟩) (by simp) (by simp)
 have it:∀z2 z3,itE (zaa 0) [.d (zar rs),.d 080,z2,z3,.z,.z,.z,.z,.z]=.ok (zcy 0 (rs.map zaG)) [.d (zar rs),.d 080,z2,z3,.z,.z,.z,.z,.z] true:=fun z2 z3=>by
  unfold itE zar;rfl
 have e:ze2 n.toNat rs far=zgV far rs ((0:Nat):Int) (List.replicate n.toNat none,List.replicate n.toNat none):=rfl;rw[e];generalize zgV far rs ((0:Nat):Int) (List.replicate n.toNat none,List.replicate n.toNat none)=P at *;dsimp only at lo;unfold rowO at *;generalize zar rs=R at *;generalize rowD far=Fd at *;generalize (List.replicate n.toNat none).map cO=Ns at *;exact zaY rfl (L2.zag (zap (zal (zaw 009 rfl 079 rfl) (ln _ _) rfl rfl rfl mu) rfl rfl) (L2.zag (zap (zal (zaw 009 rfl 079 rfl) (ln _ _) rfl rfl rfl mu) rfl rfl) (L2.zag (zgR (it _ _) lo) (zaL (zaw 00 rfl 079 rfl) rfl)))) rfl
theorem zkC {n:Nat} {one v x:Int} (h1:0<=one/\one < n) (hv:0<=v) (h:get (start n one) v=some x):v=one/\x=0:=by
 unfold start at h;rw[zgL (by simp;omega) hv,zhF] at h;split at h
 .cases h;exact ⟨by assumption,rfl⟩
 .cases h
theorem zlJ {w1 w2 z:O} {n v j:Int} {rs:List Road} {r:Road} {e:List 08} {acc:List Int} (hl:acc.length<=1000) (hv:0<=v/\v < e.length) (he:get e v=some j) (hr:zaH rs j=some r) :
  za4 [.d (zar rs),w1,w2,zad acc,⇑v,.d (rowD e)]=.nx [.d (zar rs),w1,w2,zad (acc++[j]),⇑r.1,.d (rowD e)]:=by
 obtain ⟨j0,j1,j2⟩:=za9 hr;have rd:=fun (w:O)=>rd_D (ρ:=[.d (zar rs),w1,w2,w,⇑v,.d (rowD e)]) (k:=5) (b:=4) rfl rfl hv
 rw[he] at rd;have g0:∀ρ:Rho,ρ[0]? = some (.d (zar rs))->gIx ρ (.at 0 []) j=some (.own (.d (zaG r))):=fun ρ h=>by
  refine zg4 h (j:=j.toNat) (zd5 ⟨j0,by simpa using j1⟩) ?_;rw[List.getElem?_map,j2];rfl
 have gr:=fun ρ=>(zjE (ρ:=ρ) r).1
 have lt:(acc.map fun h=>O.d (.int h)).length < sizeLine:=zej (by simp;omega);have ea:(acc.map fun h=>O.d (.int h))++[O.d (.int j)]=(acc++[j]).map fun h=>O.d (.int h):=by simp
 unfold zad at *;rw[<-ea];generalize (acc.map fun h=>O.d (.int h))=X at *;generalize zar rs=R at *;generalize rowD e=E at *;have s1:(zbd (eApp (zaa 3) (eIx (zaa 5) (zaa 4)))) [.d R,w1,w2,.l X,⇑v,.d E]=.nx [.d R,w1,w2,.l (X++[⇑j]),⇑v,.d E]:=za6 (zeK rfl rfl (rd _) rfl rfl (zcj rfl lt));have s2:(sAsg coe (eIx (eIx (zaa 0) (eIx (zaa 5) (zaa 4))) ↥0) (gtN 4)) [.d R,w1,w2,.l (X++[⇑j]),⇑v,.d E]=.nx [.d R,w1,w2,.l (X++[⇑j]),⇑r.1,.d E]:=zap (zbt (zbt rfl (zaC (rd _) rfl rfl) rfl (g0 _ rfl)) 09 rfl (gr _)) rfl rfl;exact L2.zag s1 s2
theorem zio {n:Int} {rs:List Road} {one:Int} {w1 w2:O} (ok:zay n rs) (h1:0<=one/\one < n):∀(k:Nat) (v x:Int) (acc:List Int) (z:O),0<=v/\v < n->get 072 v=some x->acc.length+k<=1000->
  ∃ws z',ws.length=k/\zaR rs one v ws=true/\zaK rs ws=x/\forF (gtN 5) za4 ((((zce n.toNat rs one k).map rowD).reverse).map O.d) [.d (zar rs),w1,w2,zad acc,⇑v,z]=.nx [.d (zar rs),w1,w2,zad (acc++ws.reverse),⇑one,z']
 | 0,v,x,acc,z,hv,hx,hl=>by
  obtain ⟨rfl,rfl⟩:=zkC ∅ hv.1 hx;refine ⟨[],z,rfl,by simp[zaR],rfl, ?_⟩;rw[List.reverse_nil,List.append_nil];rfl
 | k+1,v,x,acc,z,hv,hx,hl=>by
  obtain ⟨j,r,y,ej,hr,rfl,ey,rfl⟩:=zqj ok k hv hx;obtain ⟨⟨a0,a1⟩,_⟩:=ok.rd r (zbp hr);obtain ⟨ws,z',e1,e2,e3,lo⟩:=zio (w1:=w1) (w2:=w2) ok h1 k r.1 y (acc++[j]) (.d (rowD (ze2 n.toNat rs 072).2)) ⟨a0,a1⟩ ey (by simp;omega);refine ⟨ws++[j],z',by simp[e1],zef e2 (zgo hr), ?_, ?_⟩
  .rw[zfC,zcq,zdt hr,e3];simp[zaK]
  .have el:=(zkc ok 072).1;rw[zjw] at el;have ll:(zfz n.toNat rs 072).length=n.toNat:=zhC n.toNat rs one (k+1);have st:=zlJ (w1:=w1) (w2:=w2) (z:=z) (n:=n) (acc:=acc) ∅ (by rw[el,ll];omega) ej hr;rw[zce,List.map_append,List.reverse_append,List.map_append]
   show forF (gtN 5) za4 (.d (rowD (ze2 n.toNat rs 072).2)::_) _=_
   rw[forF]
   show (match za4 [.d (zar rs),w1,w2,zad acc,⇑r.2.1,.d (rowD (ze2 n.toNat rs (gone n.toNat rs one k)).2)] with | .nx ρ2=>_ | .ct ρ2=>_ | .br ρ2=>_ | r=>r)=_
   rw[st];dsimp only;rw[show acc++(ws++[j]).reverse=acc++[j]++ws.reverse by simp];exact lo
theorem zsR {n:Int} {rs:List Road} {one v x:Int} {k:Nat} (ok:zay n rs) (h1:0<=one/\one < n) (hk:k<=60) (hv:0<=v/\v < n) (hx:get 072 v=some x) :
  ∃ws,ws.length=k/\zaR rs one v ws=true/\zaK rs ws=x/\zbN [.d (zar rs),.d (.list 082),⇑v]=.ok (zad ws) []:=by
 obtain ⟨ws,z',e1,e2,e3,lo⟩:=zio (w1:=.d (.list 082)) (w2:=⇑v) ok h1 k v x [] .z hv hx (by simp;omega);refine ⟨ws,e1,e2,e3, ?_⟩;have it:∀w3 w4,itV (zaa 1) [.d (zar rs),.d (.list 082),⇑v,w3,w4,.z]=.ok ((((zce n.toNat rs one k).map rowD).reverse).map O.d) [.d (zar rs),.d (.list 082),⇑v,w3,w4,.z] true:=fun w3 w4=>by
  unfold itV;rfl
 have rv:=ziz ([]++ws.reverse);rw[List.nil_append,List.reverse_reverse] at rv;rw[List.nil_append] at lo;unfold zad at *;generalize (ws.reverse.map fun h=>O.d (.int h))=X at *;generalize (ws.map fun h=>O.d (.int h))=Y at *;generalize (((zce n.toNat rs one k).map rowD).reverse).map O.d=Z at *;generalize (zce n.toNat rs one k).map rowD=ST at *;generalize zar rs=R at *;exact zaY rfl (L2.zag (zap 040 rfl rfl) (L2.zag (zap rfl rfl rfl) (L2.zag (zgR (it _ _) lo) (zaL (zpN rfl rfl rv) rfl)))) rfl
theorem znE {n one:Int} {w0 w2 w3:O} {ws:List O} (n0:0<=n) (n1:n<=20) (h1:0<=one/\one < n):∃q,eLC (itR1 (zaa 4)) [none,some 1] (gtN 0) 055 zbQ (w0::⇑one::w2::w3::⇑n::ws)=.ok (.own (rowO (start n.toNat one))) (w0::⇑one::w2::w3::⇑n::ws) q:=by
 obtain ⟨q,e⟩:=zds (js:=[none,some 1]) (G:=gtN 0) (T:=gRet true) (A:=zbQ) (ρ:=w0::⇑one::w2::w3::⇑n::ws) (fun _=>true) (fun o=>match o with | ⇑p=>cO (if p=one then some 0 else none) | _=>.z) (items:=rngO 0 n.toNat) (acc:=[]) (q:=true) (fun y hy=>by
  obtain ⟨i,hi⟩:=List.getElem?_of_mem hy;obtain ⟨hi,rfl⟩:=zda hi;have t:(tst (e2 (zaa 0) (zaa 1) (fEq false))) [⇑(0+i),⇑one]=.ok (decide (0+(i:Int)=one)) [⇑(0+i),⇑one] true:=by
   have n:fEq false ⇑(0+i) ⇑one=some (.d (.bool (decide (0+(i:Int)=one)))):=by simp;rfl
   exact zaq (q:=true) (zal (q1:=true) (q2:=true) rfl rfl rfl rfl rfl n) rfl
  by_cases c:0+(i:Int)=one
  .rw[decide_eq_true c] at t;refine ⟨[⇑(0+i),⇑one],[⇑(0+i),⇑one],true,rfl,rfl,fun _=>⟨.own ⇑0,[⇑(0+i),⇑one],true,[⇑(0+i),⇑one], ?_, ?_,rfl⟩,fun h=>by cases h⟩
   .unfold zbQ eIf zi8 zb6;rw[t];rfl
   .show some _=some (cO (if 0+(i:Int)=one then some 0 else none),_)
    rw[if_pos c];rfl
  .rw[decide_eq_false c] at t;refine ⟨[⇑(0+i),⇑one],[⇑(0+i),⇑one],true,rfl,rfl,fun _=>⟨.own 042,[⇑(0+i),⇑one],true,[⇑(0+i),⇑one], ?_, ?_,rfl⟩,fun h=>by cases h⟩
   .unfold zbQ eIf zi8 zb6;rw[t];rfl
   .show some _=some (cO (if 0+(i:Int)=one then some 0 else none),_)
    rw[if_neg c]
    rfl)
 have em:((rngO 0 n.toNat).map fun o=>match o with | ⇑p=>cO (if p=one then some 0 else none) | _=>.z)=(start n.toNat one).map cO:=by
  apply List.ext_getElem?;intro i;unfold rngO start;rw[List.map_map,List.getElem?_map,List.getElem?_map]
  by_cases hi:i < n.toNat
  .rw[List.getElem?_range hi]
   by_cases c:i=one.toNat
   .subst c;rw[List.getElem?_set_self (by simp;omega)];simp only[Option.map_some,Function.comp];rw[if_pos ∅]
   .rw[List.getElem?_set_ne ∅,List.getElem?_replicate,if_pos hi];simp only[Option.map_some,Function.comp];rw[if_neg ∅]
  .rw[List.getElem?_eq_none (by simp;omega),List.getElem?_eq_none (by simp;omega)];rfl
 rw[F29.zdn,List.nil_append,em] at e;have it:itR1 (zaa 4) (w0::⇑one::w2::w3::⇑n::ws)=.ok (rngO 0 n.toNat) (w0::⇑one::w2::w3::⇑n::ws) true:=zg0 09 (zeq ∅ ∅) rfl;unfold rowO;exact ⟨_,zmK it (zbW (by rw[zcN];omega)) e⟩
def stO (n:Nat) (rs:List Road) (one:Int) (t:Nat):O:=.l (((zce n rs one t).map rowD).map O.d)
theorem zpF {n one:Int} {rs:List Road} {w0 w1 w2 w3 w4 z8 z9:O} {t:Nat} (ok:zay n rs) (ht:t<=60) :
  ∃z,zc2 [w0,w1,w2,w3,w4,.d (zar rs),rowO 071,stO n.toNat rs one t,z8,z9]=.nx [w0,w1,w2,w3,w4,.d (zar rs),rowO (gone n.toNat rs one (t+1)),stO n.toNat rs one (t+1),z8,z]:=by
 have om:=zja (far:=gone n.toNat rs one t) ok (zhC _ _ _ _);rw[zjw] at om;have f6:=ziG 071;have f9:=ziG (ze2 n.toNat rs 071).2;have lt:(((zce n.toNat rs one t).map rowD).map O.d).length < sizeLine:=zej (by simp[zhh];omega);have e:((zce n.toNat rs one t).map rowD).map O.d++[.d (rowD (ze2 n.toNat rs 071).2)]=((zce n.toNat rs one (t+1)).map rowD).map O.d:=by
  rw[zce,List.map_append,List.map_append];rfl
 have g:gone n.toNat rs one (t+1)=zfz n.toNat rs 071:=rfl;rw[g];unfold stO;rw[<-e];unfold rowO at *;generalize ((zce n.toNat rs one t).map rowD).map O.d=ST at *;generalize (gone n.toNat rs one t).map cO=G at *;generalize (zfz n.toNat rs 071).map cO=G' at *;generalize (ze2 n.toNat rs 071).2.map cO=E at *;generalize rowD (ze2 n.toNat rs 071).2=Ed at *;generalize rowD 071=Gd at *;generalize zar rs=R at *;have s1:(sAsg coe (zah 06 zbv (zac (zaa 5) (zac (zaa 6) aNil))) (gtT (zaf (gtN 6) (zaf (gtN 9) zaV)))) [w0,w1,w2,w3,w4,.d R,.l G,.l ST,z8,z9]=.nx [w0,w1,w2,w3,w4,.d R,.l G',.l ST,z8,.l E]:=zap (zaI 00 (zd4 rfl (zd4 (zgX rfl f6) rfl)) om rfl rfl) rfl rfl;have s2:(zbd (eApp (zaa 7) (zaa 9))) [w0,w1,w2,w3,w4,.d R,.l G',.l ST,z8,.l E]=.nx [w0,w1,w2,w3,w4,.d R,.l G',.l (ST++[.d Ed]),z8,.d Ed]:=za6 (zeK rfl rfl rfl rfl (zgX rfl f9) (zcj rfl lt));exact ⟨_,L2.zag s1 s2⟩
theorem zi0 (ρ:Rho):zcu 01 ρ=[]:=F29.zi0 ρ
theorem zkW {n one other k:Int} {rs:List Road} (ok:zay n rs) (T:Taut rs) (h1:0<=one/\one < n) (h2:0<=other/\other < n) (k0:0<=k) (k1:k<=60) :
  (get (gone n.toNat rs one k.toNat) other=none/\zas 026=.ok 042 [])\/
  (∃x ws,get (gone n.toNat rs one k.toNat) other=some x/\ws.length=k.toNat/\zaR rs one other ws=true/\zaK rs ws=x/\zas 026=.ok (.t [⇑x,zad ws]) []):=by
 have n0:=ok.n0;have n1:=ok.n1;have cq:=za2 ok h1 h2;have ct:=zcH ok T;obtain ⟨q,es⟩:=znE (w0:=.d 02) (w2:=⇑other) (w3:=⇑k) (ws:=[.d (zar rs),.z,.z,.z,.z]) n0 n1 h1;obtain ⟨ρ',lo,z8,z9,rfl⟩:=zbZ (G:=gtN 8) (S:=zc2) (items:=rngO 0 k.toNat) (ρ:=[.d 02,⇑one,⇑other,⇑k,⇑n,.d (zar rs),rowO (start n.toNat one),.l [],.z,.z])
  (fun t ρ=>∃z8 z9,ρ=[.d 02,⇑one,⇑other,⇑k,⇑n,.d (zar rs),rowO 071,stO n.toNat rs one t,z8,z9]) ⟨_,_,rfl⟩
  (fun t x ρ hx hx__=>by
   obtain ⟨z8,z9,e⟩:=hx__;subst e;obtain ⟨hi,rfl⟩:=zda hx;obtain ⟨z,st⟩:=zpF (w0:=.d 02) (w1:=⇑one) (w2:=⇑other) (w3:=⇑k) (w4:=⇑n) (z8:=⇑(0+t)) (z9:=z9) (one:=one) (t:=t) ok ∅;exact ⟨_,_,rfl,st,_,z,rfl⟩)
 rw[zcN] at lo;have ch:=F43.zka (p:=fun i j=>decide (i<=j)) (q:=fun i j=>decide (i<=j)) (A:=↥0) (B:=zaa 3) (C:=↥60) (ρ:=088) 09 09 (decide_eq_true k0) 09 (decide_eq_true k1);have rd:=rd_O (ρ:=054) (k:=6) (b:=2) rfl rfl (by rw[zhC];omega);have ok3:okR k=true:=zeq ∅ ∅;have fs:=zhR ((zce n.toNat rs one k.toNat).map rowD);have head:∀o ρ2,(sSeq (sIf (tst (e2 (eIx (zaa 6) (zaa 2)) 013 (fIs false))) (sRet mov 013) sNil)
  (sRet coe (zaA coes mkT (zac (eIx (zaa 6) (zaa 2)) (zac (zah 05 zbN (zac (zaa 5) (zac (zaa 7) 058))) aNil))))) 054=.rt o ρ2->zas 026=.ok o []:=fun o ρ2 h=>by
  refine Eq.trans ?_ (congrArg (Rc.ok _) (zi0 ρ2));refine zgl (ms:=01) (n:=10) (S:=zeM) (os:=026) ?_;have b4:(sAsg coe (zaa 0) (gtT (zaf (gtN 4) (zaf (gtN 5) zaV)))) 088=.nx [.d 02,⇑one,⇑other,⇑k,⇑n,.d (zar rs),.z,.z,.z,.z]:=rfl;unfold stO rowO at *;generalize netD n rs=N at *;generalize zar rs=R at *;exact L2.zag (za6 (zaN 008 rfl cq rfl)) (L2.zag (if_f (zho ch) rfl) (L2.zag (za6 (zaN 009 rfl ct rfl)) (L2.zag b4 (L2.zag (zap es rfl rfl) (L2.zag (zap 040 rfl rfl) (L2.zag (zgR (zg0 09 ok3 rfl) lo) h))))))
 cases hx:get (gone n.toNat rs one k.toNat) other with
 | none=>
  left
  rw[hx] at rd;refine ⟨rfl,head 042 054 ?_⟩;exact L2.zdQ (if_t (zaq (q:=true) (zal (q1:=true) (q2:=true) rd rfl rfl rfl rfl rfl) rfl) (zaL rfl rfl))
 | some x=>
  right
  rw[hx] at rd;obtain ⟨ws,e1,e2,e3,ew⟩:=zsR ok h1 (k:=k.toNat) ∅ h2 hx;refine ⟨x,ws,rfl,e1,e2,e3,head _ [.d 02,⇑one,⇑other,⇑k,⇑n,.d (zar rs),rowO (gone n.toNat rs one k.toNat),.d (.list ((zce n.toNat rs one k.toNat).map rowD)),z8,z9] ?_⟩;unfold stO rowO zad at *;generalize netD n rs=N at *;generalize zar rs=R at *;generalize ((zce n.toNat rs one k.toNat).map rowD).map O.d=ST at *;generalize (zce n.toNat rs one k.toNat).map rowD=SD at *;generalize (gone n.toNat rs one k.toNat).map cO=G at *;exact L2.zag (if_f (zaq (q:=true) (zal (q1:=true) (q2:=true) rd rfl rfl rfl rfl rfl) rfl) rfl) (zaL (zaw (zab rd (zab (zaI 008 (zd4 rfl (zd4 (zgX rfl fs) (zd4 rfl rfl))) ew rfl rfl) rfl rfl) rfl) rfl 079 rfl) rfl)
end F34
end My
namespace L2
open PySem PySem.Spec PyProof.Rows
section
variable {mg:Str->Option Value} {K:PySem.W.Frag} {H:Hp} {W:Addr->Prop} {σ:St} {ρ ρ':Rho} {f:Fp}
end
section
variable {X:Cx} {E:XK}
end
end L2
noncomputable section
namespace My
open PySem L2
def zf4:SF:=(sSeq (sIf (tst (e2 (zaa 0) 013 (fIs false))) (sRet mov 013) sNil)
  (sRet mov 069))
def zaX:FC:=runF [false] 1 zf4
def zeF:SF:=(sSeq (sIf (tst (e2 (eIx (zaa 3) ↥0) (eC (.str "none")) (fEq false))) (sRet mov 013) sNil)
  (sRet mov (zah 01 zbn (zac (zaa 0) (zac (zaa 1) (zac (zaa 2) (zac (eIx (zaa 3) ↥1) aNil)))))))
def zan:FC:=runF 01 4 zeF
def zhy:SF:=(sSeq (zbd (zah 05 zat 07))
  (sRet mov (zah 01 zcQ 019)))
def zbI:FC:=runF 01 4 zhy
end My
end
namespace My
open PySem L2
namespace F42
open F30 (cel)
def sumO (cs:List 08):Option Int:=if none∈cs then none else some (cs.map (·.getD 0)).sum
theorem zlu:∀cs:List 08,none∉cs->dIs (cs.map optD)=some (cs.map (·.getD 0))
 | [],_=>rfl
 | none::cs,h=>absurd List.mem_cons_self h
 | some a::cs,h=>by
  have:=zlu cs fun z=>h (List.mem_cons_of_mem _ z)
  show (dIs (cs.map optD)).map (a::·)=_
  rw[this];rfl
theorem zmP (cs:List 08):zaJ [rowO cs]=.ok (.d (oD (sumO cs))) []:=by
 have fr:=ziG cs;have fi:fIn false 042 (rowO cs)=some (.d (.bool (decide (none∈cs)))):=by
  rw[<-zgI cs];unfold fIn;rw[fr,fz_d (rowD cs)]
 have zs:none∉cs->f1 fSum [rowO cs]=some ⇑((cs.map (·.getD 0)).sum):=fun h=>by
  have:zsOf (rowO cs)=some (cs.map (·.getD 0)):=by
   unfold zsOf;rw[fr];exact zlu cs h
  show (zsOf (rowO cs)).map (fun ns=>O.d (PyData.int ns.sum))=_
  rw[this];rfl
 unfold sumO
 by_cases h:none∈cs
 .rw[if_pos h];rw[decide_eq_true h] at fi;unfold rowO at *;generalize cs.map cO=R at *;exact zaY rfl (L2.zdQ (if_t 027 (zaL rfl rfl))) rfl
 .rw[if_neg h];have zs:=zs h;rw[decide_eq_false h] at fi;generalize (cs.map (·.getD 0)).sum=s at *;unfold rowO at *;generalize cs.map cO=R at *;exact zaY rfl (L2.zag (if_f 027 rfl) (zaL (zgT 009 rfl zs) rfl)) rfl
def legs (n:Int) (rs:List Road) (S:List Int):List 08:=(S.zip 092).map fun x=>cel n rs x.1 x.2
def zgg (x:Int×Int):O:=.d (.tuple [.int x.1,.int x.2])
def legO (n:Int) (rs:List Road):O->O
 | .d (.tuple [.int a,.int b])=>cO (cel n rs a b)
 | o=>o
theorem zgr:∀(S T:List Int),zipO 020 (T.map PyData.int)=(S.zip T).map zgg
 | [],_=>by simp[zipO]
 | _::_,[]=>by simp[zipO]
 | a::S,b::T=>by
  show O.d (.tuple [.int a,.int b])::zipO 020 (T.map PyData.int)=_
  rw[zgr S T];rfl
theorem zmc {S:List Int} {D:PyData} (h1:1<=S.length):itZ 011 [.d D,.d (zai S)]=.ok ((S.zip 092).map zgg) [.d D,.d (zai S)] true:=by
 have sl:fSl (.d (zai S)) (some 1) none=some (.l (((S.map PyData.int).drop 1).map O.d)):=F32.zf7 ∅ (by simp;omega);have fz:fz (.l (((S.map PyData.int).drop 1).map O.d))=some (.list 093):=zhR _;have zo:=zgr S 092;rw[List.map_drop] at zo;unfold itZ;have e:011 [.d D,.d (zai S)]=.ok [.at 1 [],.own (.d (.list 093))] [.d D,.d (zai S)] true:=
  zab (q1:=true) (q2:=true) rfl (zab (q1:=true) (q2:=true) (zcI (zdv (q1:=true) (q2:=true) (q3:=true) rfl (ze9 (q:=true) 09) rfl rfl rfl sl) fz) rfl rfl) rfl
 rw[e];have c:coes [.d D,.d (zai S)] [.at 1 [],.own (.d (.list 093))]=some ([.d (zai S),.d (.list 093)],[.d D,.d (zai S)]):=rfl;dsimp only[Re.bind];rw[c]
 show (match zz [.d (.list (S.map PyData.int)),.d (.list ((S.map PyData.int).drop 1))] with | some is=>Re.ok is [.d D,.d (zai S)] true | none=>.bad)=_
 show Re.ok (zipO 020 093) [.d D,.d (zai S)] true=_
 rw[zo]
theorem zl4 {n:Int} {rs:List Road} {S:List Int} (n0:0<=n) (hS:∀s∈S,0<=s/\s < n) (h1:1<=S.length) (h7:S.length<=1000):zbs [.d 078,.d (zai S)]=.ok (.d (oD (sumO 056))) []:=by
 have sh:=zeh n.toNat rs;have su:=zmP 056;have sc:=F30.zfB (sumO 056);have iz:=zmc (D:=tabD 03) h1;obtain ⟨q,lc⟩:=zds (js:=[none,none,some 0]) (G:=gtT 024) (T:=gRet true) (A:=zcE) (ρ:=[.d 078,.d (zai S)]) (fun _=>true) (legO n rs) (items:=(S.zip 092).map zgg) (acc:=[]) (q:=true) (fun x hx=>by
  obtain ⟨⟨a,b⟩,hm,rfl⟩:=List.mem_map.mp hx;have ha:=hS a (List.of_mem_zip hm).1;have hb:=hS b (List.mem_of_mem_drop (List.of_mem_zip hm).2);have rd:=zjv (ρ:=[⇑a,⇑b,.d 078]) (k:=2) (a:=0) (b:=1) (i:=a) (j:=b) sh rfl rfl rfl ∅ ∅;refine ⟨[⇑a,⇑b,.d 078],_,_,rfl,rfl,fun _=>⟨_,_,_,[⇑a,⇑b,.d 078],rd, ?_,rfl⟩,fun z=>nomatch z⟩
  show some (O.d (oD (cell 03 a.toNat b.toNat)),_)=some (cO (cel n rs a b),_)
  rw[zgY]
  rfl)
 have em:[]++(((S.zip 092).map zgg).filter fun _=>true).map (legO n rs)=(legs n rs S).map cO:=by
  rw[List.filter_eq_self.mpr (fun _ _=>rfl),List.nil_append,List.map_map];unfold legs;rw[List.map_map];rfl
 rw[em] at lc;have l:=zmK iz (by
  show ((S.zip 092).map zgg).length<=sizeLine
  have:(1000:Nat)<=sizeLine:=by decide
  simp only[List.length_map,List.length_zip]
  omega) lc
 unfold rowO at su;generalize (legs n rs S).map cO=R at *;generalize oD (sumO 056)=Z at *;generalize tabD 03=Td at *;exact zaY rfl (zaL (zaN (zab l rfl rfl) rfl su (by simp[sc])) rfl) rfl
theorem zfs {n:Int} {rs:List Road} {S:List Int} (ok:zay n rs) (T:Taut rs) (hS:∀s∈S,0<=s/\s < n) (h1:1<=S.length) (h7:S.length<=7):zbU [.d 02,.d (zai S)]=.ok (.d (oD (sumO 056))) []:=by
 have tf:=F43.zfR ok T hS h1 h7;have ft:=zjZ 03;have lt:=zl4 (rs:=rs) ok.n0 hS h1 ∅;have sc:=F30.zfB (sumO 056);unfold tabO at *;generalize netD n rs=N at *;generalize zai S=I at *;generalize tabD 03=Td at *;generalize oD (sumO 056)=Z at *;exact zaY rfl (zaL (zaN (zab (F29.zne (zaI 00 rfl tf rfl rfl) ft) 009 rfl) rfl lt (by simp[sc])) rfl) rfl
end F42
namespace F42
open F30 (cel detL zav zaQ zaW detE)
open F29 (zaO)
open F32 (IsO zbC onO)
open F34 (WkN get gone zch)
theorem WkN.cons {rs:List Road} {r:Road} (hr:r∈rs) {k:Nat} {p q L:Int} (w:WkN rs k p q L):p=r.2.1->WkN rs (k+1) r.1 q (r.2.2+L):=by
 induction w with
 | nil p=>
  rintro rfl
  have:=WkN.snoc (WkN.nil (rs:=rs) r.1) hr
  rwa [show (0:Int)+r.2.2=r.2.2+0 by omega] at this
 | @snoc k p L s _ hs ih=>
  intro e
  have:=WkN.snoc (ih e) hs
  rwa [show r.2.2+L+s.2.2=r.2.2+(L+s.2.2) by omega] at this
variable {n p q:Int} {rs:List Road}
end F42
namespace F42
open F30 (cel detL zav zaQ zaW detE detD detO)
open F29 (zaO up)
open F32 (IsO zbC onO zbf zbO)
open F34 (WkN get gone zch)
theorem zb1 {ms:List Bool} {AA:AF} {ρ ρ1:Rho} {rs:List Rv} {q:Bool} {os:List O} {F:FC} {o:O} (hA:AA ρ=.ok rs ρ1 q) (hp:pass ms rs ρ1=some (os,[],ρ1)) (hF:F os=.ok o []):zah ms F AA ρ=.ok (.own o) ρ1 false:=by
 unfold zah;rw[hA];dsimp only[Re.bind];rw[hp];dsimp only;rw[hF];dsimp only;split
 .rfl
 .rfl
theorem zm1:zaX [.d .none]=.ok 042 []:=rfl
theorem zl3 {L:Int} {I:PyData}:zaX [.d (.tuple [.int L,I])]=.ok ⇑L []:=rfl
section
variable {n p q k:Int} {rs:List Road} {r:Road}
theorem zlT {N x:PyData}:zan [.d N,⇑p,⇑q,.d (.tuple [.str "none",x])]=.ok 042 []:=by
 have e:=zdM;exact zaY rfl (L2.zdQ (if_t (zaq (zal 038 rfl rfl rfl rfl e) rfl) (zaL rfl rfl))) rfl
theorem zjX {N I x:PyData} {L:Int} (h:zbn [.d N,⇑p,⇑q,.d I]=.ok ⇑L []):zan [.d N,⇑p,⇑q,.d (.tuple [.str "way",I,x])]=.ok ⇑L []:=by
 have e:=zeE;exact zaY rfl (L2.zag (if_f (zaq (zal 038 rfl rfl rfl rfl e) rfl) rfl) (zaL (zaN (zab rfl (zab rfl (zab rfl (zab 038 rfl rfl) rfl) rfl) rfl) rfl h rfl) rfl)) rfl
theorem zkt (hk:0<=k/\k < (rs.length:Int)):∀{W:List Int} {p q:Int},zaR 062 p q W=true->zaR rs p q (W.map (up k))=true
 | [],p,q,h=>h
 | j::W,p,q,h=>by
  have hj:=(zeA h) j List.mem_cons_self;have e:=F32.zqq hk hj.1;simp only[List.map_cons,zaR] at h ⊢;rw[<-e]
  cases c:zaH 062 j with
  | none=>rw[c] at h;cases h
  | some r=>
   rw[c] at h;dsimp only at h ⊢
   by_cases z:r.1=p
   .rw[if_pos z] at h ⊢;exact zkt hk h
   .rw[if_neg z] at h;cases h
theorem zmz (ok:zay n rs) (T:Taut rs) (hp:0<=p/\p < n) (hq:0<=q/\q < n):∃o D,zbB [.d 02,⇑p,⇑q]=.ok o []/\fz o=some D/\zan [.d 02,⇑p,⇑q,.d D]=.ok (.d (oD 073)) []:=by
 rcases zjz ok T hp hq with ⟨no,R,e,_⟩ | ⟨W,hs,e,lw⟩
 .refine ⟨_,_,e,zmA (zbK _), ?_⟩;rw[zbO ok T hp hq no];exact zlT
 .refine ⟨_,_,e,F32.zoV _ _ _, ?_⟩;rw[zbf ok T hp hq lw.ds];exact zjX (F43.zei ok hp hq lw.ld (by have:=lw.lW;omega))
theorem zj7 (ok:zay n rs) (T:Taut rs) (hp:0<=p/\p < n) (hq:0<=q/\q < n) (hk:0<=k/\k < (rs.length:Int)):∃o D,zaS [.d 02,⇑p,⇑q,⇑k]=.ok o []/\fz o=some D/\zan [.d 02,⇑p,⇑q,.d D]=.ok (.d (oD (cel n 062 p q))) []:=by
 have okS:=F29.zfc ok k.toNat;have TS:=F29.zdN T k.toNat;rcases F29.zkK ok T hp hq hk with ⟨no,R,e,_⟩ | ⟨W,hs,e,lw⟩
 .refine ⟨_,_,e,zmA (zbK _), ?_⟩;rw[zbO okS TS hp hq no];exact zlT
 .obtain ⟨hA,hL⟩:=F32.ups hk (zeA lw.ld)
  have:=F43.zei ok hp hq (zkt hk lw.ld) (by have:=lw.lW;simp;omega)
  rw[hL] at this;refine ⟨_,_,e,F32.zoV _ _ _, ?_⟩;rw[zbf okS TS hp hq lw.ds];exact zjX this
end
section
variable {N Db Dw x1 x2:PyData} {p q i:Int} {os ot:List O} {ob ow y w3 w4 z7:O}
end
theorem zim (c:Option Int):Lay 0 (oD c):=by
 cases c
 .exact Lay.none
 .exact Lay.int _
theorem zqm {A B:EF} {ρ ρ1 ρ2:Rho} {q1 q2 c:Bool} (h:eSc decB A ρ=.ok false ρ1 q1) (k:eSc decB B ρ1=.ok c ρ2 q2):eOr A B ρ=.ok (.own (.d (.bool c))) ρ2 (q1&&q2):=zl7 (zbX h k)
theorem zpM {A B:EF} {ρ ρ1:Rho} {q1:Bool} (h:eSc decB A ρ=.ok true ρ1 q1):eOr A B ρ=.ok (.own 037) ρ1 (q1&&true):=zl7 (zbX h rfl)
theorem zk5 {I:Rho->Re (Src×Bool)} {js:List 015} {G:GF} {A:EF} {ρ:Rho} {items:List O} {kd q1:Bool} (f:O->O) (h:I ρ=.ok ((items,none),kd) ρ q1) (hl:items.length<=1000) (hA:∀x∈items,∃ρ1 r ρ3 q3 ρ4,G x (zdp js ρ)=some ρ1/\A ρ1=.ok r ρ3 q3/\coe ρ3 r=some (f x,ρ4)/\zcb js ρ4 (clrR js ρ)=ρ) :
  ∃q,eLS I js G 055 A ρ=.ok (.own (.l (items.map f))) ρ q:=by
 obtain ⟨q',e⟩:=zds (js:=js) (G:=G) (T:=gRet true) (A:=A) (ρ:=ρ) (fun _=>true) f (items:=items) (acc:=[]) (q:=true) (fun x hx=>by
  obtain ⟨ρ1,r,ρ3,q3,ρ4,a,b,c,d⟩:=hA x hx;exact ⟨ρ1,ρ1,true,a,rfl,fun _=>⟨r,ρ3,q3,ρ4,b,c,d⟩,fun z=>nomatch z⟩)
 rw[List.filter_eq_self.mpr (fun _ _=>rfl),List.nil_append] at e
 have:(1000:Nat)<=sizeLine:=by decide
 exact ⟨_,F30.zor h ∅ e⟩
theorem zrf {I:Rho->Re (List O)} {js:List 015} {G:GF} {A:EF} {ρ:Rho} {items:List O} {q1:Bool} (f:O->O) (h:I ρ=.ok items ρ q1) (hl:items.length<=1000) (hA:∀x∈items,∃ρ1 r ρ3 q3 ρ4,G x (zdp js ρ)=some ρ1/\A ρ1=.ok r ρ3 q3/\coe ρ3 r=some (f x,ρ4)/\zcb js ρ4 (clrR js ρ)=ρ) :
  ∃q,eLC I js G 055 A ρ=.ok (.own (.l (items.map f))) ρ q:=by
 obtain ⟨q',e⟩:=zds (js:=js) (G:=G) (T:=gRet true) (A:=A) (ρ:=ρ) (fun _=>true) f (items:=items) (acc:=[]) (q:=true) (fun x hx=>by
  obtain ⟨ρ1,r,ρ3,q3,ρ4,a,b,c,d⟩:=hA x hx;exact ⟨ρ1,ρ1,true,a,rfl,fun _=>⟨r,ρ3,q3,ρ4,b,c,d⟩,fun z=>nomatch z⟩)
 rw[List.filter_eq_self.mpr (fun _ _=>rfl),List.nil_append] at e
 have:(1000:Nat)<=sizeLine:=by decide
 exact ⟨_,zmK h ∅ e⟩
theorem zl5 {A:EF} {ρ:Rho} {q view:Bool} {o:O} {ds:List PyData} {mk:List PyData->List O} (h:A ρ=.ok (.own o) ρ q) (f:fz o=some 050):srcM view mk A ρ=.ok ((mk ds,none),true) ρ q:=by
 have e:=F30.zhT (mk:=mk) h f
 cases view with
 | false=>exact e
 | true=>
  have:srcM true mk A ρ=srcM false mk A ρ:=by
   unfold srcM;rw[h];rfl
  rw[this,e]
section
variable {N N' S D Td lo hi lo' hi' W1 W2:PyData} {p q k:Int} {no o1 o2 rv t1 t2 f2:List O} {s:Str}
end
theorem zqk (ρ:Rho):zcu [false,false,false,false,false] ρ=[]:=by
 rcases ρ with _ | ⟨a,_ | ⟨b,_ | ⟨c,_ | ⟨d,_ | ⟨e,r⟩⟩⟩⟩⟩<;>simp[zcu]
theorem znu {n:Int} {rs:List Road} {j:Nat} {ρ:Rho} (h:ρ[j]? = some (.d 02)):eIx (zaa j) ↥0 ρ=.ok (.own ⇑n) ρ true:=zbt (q1:=true) (q2:=true) (F24.zen h) 09 rfl (F43.zuT h)
theorem zou {n p q:Int} {rs:List Road} (ok:zay n rs) (T:Taut rs) (hp:0<=p/\p < n) (hq:0<=q/\q < n):zb8 [.d 02,⇑p,⇑q]=.ok (.d (.tuple [oD ((cel n rs q p).map fun x=>-x),oD 073])) []:=zm2 ⟨ok,by omega,T⟩ hp hq
variable {n p q:Int} {rs:List Road} {G:List Int}
end F42
namespace F42
open F30 (cel detL zav zaQ zaW detE detD detO)
open F29 (zaO up)
open F32 (IsO zbC onO zbf zbO)
open F34 (WkN get gone zch)
section
variable {N N' S Gd Td Te W:PyData} {p q k a b n:Int} {w0:O} {go no o1 o2 sf t1 t2 P0 P1:List O}
end
end F42
end My
namespace L2
open PySem PySem.Spec PyProof.Rows
def ltL:List Int->List Int->Bool
 | [],ys=>decide (0 < ys.length)
 | _::_,[]=>false
 | x::xs,y::ys=>if x=y then ltL xs ys else decide (x < y)
theorem zpu (ys:List Int):ltL [] ys=decide (0 < ys.length):=by cases ys<;>rfl
def zmB (items:Array Value) (xs:List Int):Prop:=items.size=xs.length/\∀(j:Nat) (x:Int),xs[j]? = some x->∃t,items[j]? = some (.int x t)
theorem zsb {prog:Program} {w:World} {A:Around} {a b:Int} {t u:Tok} {E:Value->Shared->Prop} {s:Shared} {Q:Value->Shared->Prop} (h:Q (.bool (decide (a < b))) s):wpAny 052 A (richCompare CmpOp.Lt (.int a t) (.int b u)) Q E s:=
 CmpOf.ints_lt (P:=fun i v=>∃t,v=.int (if i=0 then a else b) t) (fun i=>if i=0 then a else b) (fun i v h=>h) 0 1 _ _ s Q E ⟨t,rfl⟩ ⟨u,rfl⟩ h
theorem zqn (l b:Addr) (items items2:Array Value) (n n2:Nat) (xs ys:List Int) (i1:zmB items xs) (i2:zmB items2 ys):∀(k i:Nat),xs.length - i=k->
  Meets (Builtin.«list.__eq__.loop» { pos:=[Value.ref l,Value.ref b,rawInt ↑i,rawInt 0] }) fun A R s=>
   (∃o,s.heap.get? l=some o/\o.data=Data.seq items n)/\(∃o,s.heap.get? b=some o/\o.data=Data.seq items2 n2)/\i<=ys.length/\i<=xs.length/\
    R (Except.ok (Flow.ret (Value.bool (ltL (xs.drop i) (ys.drop i))))) s:=by
 intro k
 induction k with
 | zero=>
  intro i hk prog w A R s ⟨⟨o1,h1,d1⟩,⟨o2,h2,d2⟩,hi1,hi2,hR⟩;unfold Builtin.«list.__eq__.loop»;refine wpAny_bind (wpAny_listItems h1 d1 (wpAny_bind (wpAny_listItems h2 d2 ?_)));have e:items[(((i:Int)).toNat)]? = none:=by
   rw[Int.toNat_natCast];exact Array.getElem?_eq_none (by have:=i1.1;omega)
  rw[e];refine wpAny_bind (wpAny_listItems h1 d1 (wpAny_bind (wpAny_listItems h2 d2 (wpAny_pure ?_))));have e1:xs.drop i=[]:=List.drop_eq_nil_of_le ∅;rw[e1,zpu,List.length_drop] at hR;have e2:decide (items.size < items2.size)=decide (0 < ys.length - i):=decide_eq_decide.mpr (by have:=i1.1;have:=i2.1;omega)
  show R (Except.ok (Flow.ret (Value.bool (decide (items.size < items2.size))))) s
  rw[e2];exact hR
 | succ k ih=>
  intro i hk prog w A R s ⟨⟨o1,h1,d1⟩,⟨o2,h2,d2⟩,hi1,hi2,hR⟩;have hx:i < xs.length:=by omega
  obtain ⟨t,ex⟩:=i1.2 i xs[i] (List.getElem?_eq_getElem hx);have ex':items[(((i:Int)).toNat)]? = some (.int xs[i] t):=by rw[Int.toNat_natCast];exact ex
  unfold Builtin.«list.__eq__.loop»;refine wpAny_bind (wpAny_listItems h1 d1 (wpAny_bind (wpAny_listItems h2 d2 ?_)));rw[List.drop_eq_getElem_cons hx] at hR;rcases Nat.lt_or_ge i ys.length with hy | hy
  .obtain ⟨u,ey⟩:=i2.2 i ys[i] (List.getElem?_eq_getElem hy);have ey':items2[(((i:Int)).toNat)]? = some (.int ys[i] u):=by rw[Int.toNat_natCast];exact ey
   rw[ex',ey'];rw[List.drop_eq_getElem_cons hy] at hR;unfold ltL at hR;refine wpAny_bind (wpAny_eqBool_int ?_)
   by_cases z:xs[i]=ys[i]
   .rw[if_pos z] at hR;have zb:(xs[i]==ys[i])=true:=by simpa using z
    rw[zb,if_pos rfl];have e:rawInt ((i:Int)+1)=rawInt ((i+1:Nat):Int):=by congr 1
    rw[e];exact MeetsSeq.meets_again rfl MeetsSeq3.plain_eq_loop MeetsSeq3.entry_eq_loop (ih (i+1) ∅) prog w A R s ⟨⟨o1,h1,d1⟩,⟨o2,h2,d2⟩,hy,hx,hR⟩
   .rw[if_neg z] at hR;have zb:(xs[i]==ys[i])=false:=by simpa using z
    rw[zb,if_neg Bool.false_ne_true];refine wpAny_bind (wpAny_listItems h1 d1 (wpAny_bind (wpAny_listItems h2 d2 ?_)));rw[ex',ey'];exact wpAny_bind (zsb (wpAny_pure hR))
  .have ey:items2[(((i:Int)).toNat)]? = none:=by
    rw[Int.toNat_natCast];exact Array.getElem?_eq_none (by have:=i2.1;omega)
   rw[ex',ey];refine wpAny_bind (wpAny_listItems h1 d1 (wpAny_bind (wpAny_listItems h2 d2 (wpAny_pure ?_))));have e1:ys.drop i=[]:=List.drop_eq_nil_of_le hy;rw[e1] at hR;unfold ltL at hR;have e2:decide (items.size < items2.size)=false:=decide_eq_false (by have:=i1.1;have:=i2.1;omega)
   show R (Except.ok (Flow.ret (Value.bool (decide (items.size < items2.size))))) s
   rw[e2];exact hR
theorem zpm (l b:Addr) (items items2:Array Value) (n n2:Nat) (xs ys:List Int) (i1:zmB items xs) (i2:zmB items2 ys) :
  Meets (Builtin.«list.__lt__» { pos:=[Value.ref l,Value.ref b] }) fun A R s=>
   (∃o,s.heap.get? l=some o/\o.data=Data.seq items n)/\(∃o,s.heap.get? b=some o/\o.cls=Value.type "list"/\o.data=Data.seq items2 n2)/\
    R (Except.ok (Flow.ret (Value.bool (ltL xs ys)))) s:=by
 intro prog w A R s ⟨⟨o1,h1,d1⟩,⟨o2,h2,c2,d2⟩,hR⟩;unfold Builtin.«list.__lt__»;refine wpAny_bind (wpAny_pure (wpAny_bind (wpAny_isInstance (T:="list") ⟨o2,h2,c2⟩ rfl ?_)));exact MeetsSeq.meets_again rfl MeetsSeq3.plain_eq_loop MeetsSeq3.entry_eq_loop (zqn l b items items2 n n2 xs ys i1 i2 xs.length 0 rfl) prog w A R s ⟨⟨o1,h1,d1⟩,⟨o2,h2,d2⟩,Nat.zero_le _,Nat.zero_le _,hR⟩
theorem zhK:∀xs:List Int,ltL xs xs=false
 | []=>rfl
 | x::xs=>by unfold ltL;rw[if_pos rfl];exact zhK xs
def ltP (i:Int) (xs:List Int) (j:Int) (ys:List Int):Bool:=if i=j then ltL xs ys else decide (i < j)
theorem zpY (a b:Addr) (i j:Int) (t u:Tok) (v2 w2:Value) (n n2:Nat) (xs ys:List Int) :
  Meets (Builtin.«tuple.__lt__» { pos:=[Value.ref a,Value.ref b] }) fun A R s=>
   (∃o,s.heap.get? a=some o/\o.data=Data.seq #[.int i t,v2] n)/\(∃o,s.heap.get? b=some o/\o.cls=Value.type "tuple"/\o.data=Data.seq #[.int j u,w2] n2)/\
    SeqAt.EqAt A.in1 s v2 w2 (decide (xs=ys))/\(∀(prog:Program) (w:World) (E:Value->Shared->Prop) (Q:Value->Shared->Prop),Q (.bool (ltL xs ys)) s->wpAny 052 A.in1 (richCompare CmpOp.Lt v2 w2) Q E s)/\
    R (Except.ok (Flow.ret (Value.bool (ltP i xs j ys)))) s:=by
 intro prog w A R s ⟨⟨o1,h1,d1⟩,⟨o2,h2,c2,d2⟩,he,hl,hR⟩;unfold Builtin.«tuple.__lt__»;refine wpAny_bind (wpAny_pure (wpAny_bind (wpAny_isInstance (T:="tuple") ⟨o2,h2,c2⟩ rfl ?_)));refine wpAny_bind (wpAny_tupleItemsOf h1 d1 (wpAny_bind (wpAny_tupleItemsOf h2 d2 ?_)));refine wpAny_bind (wpAny_forIn_list _ (fun l r s'=>s'=s/\r=(none,())/\(l=[(.int i t,.int j u),(v2,w2)]\/(l=[(v2,w2)]/\i=j)\/(l=[]/\i=j/\xs=ys))) _ ?_ ?_ _ _ ⟨rfl,rfl,.inl rfl⟩)
 .rintro x rest r s' ⟨rfl,rfl,h⟩
  rcases h with h | ⟨h,e⟩ | ⟨h,_⟩
  .cases h;refine wpAny_bind (wpAny_eqBool_int ?_)
   by_cases z:i=j
   .have zb:(i==j)=true:=by simpa using z
    rw[zb];exact wpAny_pure ⟨rfl,rfl,.inr (.inl ⟨rfl,z⟩)⟩
   .have zb:(i==j)=false:=by simpa using z
    rw[zb];unfold ltP at hR;rw[if_neg z] at hR;exact wpAny_bind (wpAny_rule (wpAny_bind (zsb (wpAny_bind (wpAny_pure (wpAny_pure (wpAny_pure hR)))))))
  .cases h;refine wpAny_bind (he prog w _ _ ?_);unfold ltP at hR;rw[if_pos e] at hR
   by_cases z:xs=ys
   .rw[decide_eq_true z];exact wpAny_pure ⟨rfl,rfl,.inr (.inr ⟨rfl,e,z⟩)⟩
   .rw[decide_eq_false z];exact wpAny_bind (wpAny_rule (wpAny_bind (hl prog w _ _ (wpAny_bind (wpAny_pure (wpAny_pure (wpAny_pure hR)))))))
  .cases h
 .rintro r s' ⟨rfl,rfl,h⟩
  rcases h with h | ⟨h,_⟩ | ⟨_,e,z⟩
  .cases h
  .cases h
  .unfold ltP at hR;rw[if_pos e,z,zhK] at hR;exact wpAny_pure hR
def zkO (I S:Addr) (h0 h:Heap):Prop:=∀b o,b≠I->b≠S->h0.get? b=some o->h.get? b=some o
def zke (vs:Array Value) (bt:Nat->Nat->Bool):Option Value:=if vs.size=0 then some .none else vs[argBest bt (vs.size - 1)]?
theorem zeN {h:Heap} {I l S:Addr} {j:Nat} {f:Obj->Obj} (hIS:S≠I) (it:h.IsListIter I l j):(h.update S f).IsListIter I l j:=by
 obtain ⟨o,e,c,d⟩:=it;exact ⟨o,by rw[Heap.get?_update_other h f hIS];exact e,c,d⟩
theorem zll {prog:Program} {w:World} {A:Around} {R:Result->Shared->Prop} {I l S:Addr} {vs:Array Value} {h0:Heap} {bt:Nat->Nat->Bool} (hA:A.handled=none) (hIS:S≠I) (hl:l≠I) (hl':l≠S) (L:h0.IsList l vs)
  (C:∀(i j:Nat) (vi vj:Value),vs[i]? = some vi->vs[j]? = some vj->∀(s:Shared),zkO I S h0 s.heap->∀(Q E:Value->Shared->Prop),Q (.bool (bt i j)) s->wpAny 052 A.in1 (richCompare CmpOp.Lt vi vj) Q E s) :
  ∀(r j:Nat) (s:Shared),vs.size - j=r->j<=vs.size->zkO I S h0 s.heap->s.heap.IsListIter I l j->
   ((j=0/\∃n,s.heap.get? S=some { cls:=Value.type "list",data:=Data.seq #[] n })\/(0 < j/\∃vb n,vs[argBest bt (j - 1)]? = some vb/\s.heap.get? S=some { cls:=Value.type "list",data:=Data.seq #[vb,vb] n }))->
   (∀(v:Value) (h':Heap),zke vs bt=some v->zkO I S h0 h'->R (Except.ok (Flow.ret v)) { s with heap:=h' })->
   codeAny 052 A (Code.builtin "min.loop" { pos:=[Value.ref I,Value.none,Value.ref S],kw:=[(Str.ofString "default",Value.none)] }) R s:=by
 intro r
 induction r with
 | zero=>
  intro j s hr hj hs hi hS hR;refine codeAny_builtin F.entry_min_loop ?_;rw[Around.under_plainId F.plain_min_loop];unfold Builtin.«min.loop»;have Ls:s.heap.IsList l vs:=by
   obtain ⟨o,e,c⟩:=L;exact ⟨o,hs _ _ hl hl' e,c⟩
  have e0:vs[j]? = none:=Array.getElem?_eq_none ∅;rcases hS with ⟨rfl,n,hS⟩ | ⟨j0,vb,n,eb,hS⟩
  .refine wpAny_bind (wpAny_seqItems hS rfl (wpAny_bind (wpAny_tryCatch (wpAny_pyNext_list_end hA hi Ls e0 fun h' sb=>?_))));refine wpAny_bind (wpAny_rule (wpAny_pure (hR _ h' (if_pos ∅) fun b o b1 b2 e=>sb b o b1 (hs b o b1 b2 e))))
  .refine wpAny_bind (wpAny_seqItems hS rfl (wpAny_bind (wpAny_tryCatch (wpAny_pyNext_list_end hA hi Ls e0 fun h' sb=>?_))));have hS':h'.get? S=some { cls:=Value.type "list",data:=Data.seq #[vb,vb] n }:=sb S _ hIS hS;refine wpAny_bind (wpAny_updateSeq hS' rfl (wpAny_bind (wpAny_letGo (wpAny_pure (hR vb _ ?_ fun b o b1 b2 e=>?_)))) (show (2:Nat)<=sizeLine by decide) (show (0:Nat)<=sizeLine+1 by decide))
   .unfold zke;rw[if_neg ∅,show vs.size - 1=j - 1 by omega];exact eb
   .show (h'.update S _).get? b=some o
    rw[Heap.get?_update_other h' _ (Ne.symm b2)];exact sb b o b1 (hs b o b1 b2 e)
 | succ r ih=>
  intro j s hr hj hs hi hS hR;refine codeAny_builtin F.entry_min_loop ?_;rw[Around.under_plainId F.plain_min_loop];unfold Builtin.«min.loop»;have hx:j < vs.size:=by omega
  have Ls:s.heap.IsList l vs:=by
   obtain ⟨o,e,c⟩:=L;exact ⟨o,hs _ _ hl hl' e,c⟩
  have ej:=Array.getElem?_eq_getElem hx
  -- on to the next turn
  have next:∀(h2:Heap) (vb:Value) (n:Nat),zkO I S h0 h2->h2.IsListIter I l (j+1)->vs[argBest bt j]? = some vb->h2.get? S=some { cls:=Value.type "list",data:=Data.seq #[vb,vb] n }->codeAny 052 A (Code.builtin "min.loop" { pos:=[Value.ref I,Value.none,Value.ref S],kw:=[(Str.ofString "default",Value.none)] }) R { s with heap:=h2 }:=fun h2 vb n k1 k2 k3 k4=>
   ih (j+1) { s with heap:=h2 } ∅ hx k1 k2 (.inr ⟨Nat.succ_pos _,vb,n,k3,k4⟩) hR
  rcases hS with ⟨rfl,n,hS⟩ | ⟨j0,vb,n,eb,hS⟩
  .refine wpAny_bind (wpAny_seqItems hS rfl (wpAny_bind (wpAny_tryCatch (wpAny_pyNext_list_item hi Ls ej fun h' hi' sb=>?_))));have hS':h'.get? S=some { cls:=Value.type "list",data:=Data.seq #[] n }:=(sb.2 S hIS).trans hS;have q:=PySem.IsL.update hS' (fun _=>#[vs[0],vs[0]]);refine wpAny_bind (wpAny_pure (wpAny_bind (wpAny_updateSeq hS' rfl (wpAny_pure ⟨plainId_quiet F.plain_min_loop _, ?_⟩) (show (0:Nat)<=sizeLine by decide) (show (2:Nat)<=sizeLine+1 by decide))));refine next _ vs[0] _ (fun b o b1 b2 e=>?_) (zeN hIS hi') ej q
   show (h'.update S _).get? b=some o
   rw[Heap.get?_update_other h' _ (Ne.symm b2),sb.2 b b1];exact hs b o b1 b2 e
  .refine wpAny_bind (wpAny_seqItems hS rfl (wpAny_bind (wpAny_tryCatch (wpAny_pyNext_list_item hi Ls ej fun h' hi' sb=>?_))));have hS':h'.get? S=some { cls:=Value.type "list",data:=Data.seq #[vb,vb] n }:=(sb.2 S hIS).trans hS;have same:zkO I S h0 h':=fun b o b1 b2 e=>(sb.2 b b1).trans (hs b o b1 b2 e)
   have ab:argBest bt j=if bt j (argBest bt (j - 1))=true then j else argBest bt (j - 1):=by
    obtain ⟨m,rfl⟩:∃m,j=m+1:=⟨j - 1,by omega⟩;rfl
   refine wpAny_bind (wpAny_pure (wpAny_bind (wpAny_tryCatch (wpAny_holding (wpAny_bind (C j (argBest bt (j - 1)) _ _ ej eb _ same _ _ (wpAny_bind (wpAny_holding (wpAny_truthy_bool (wpAny_bind (wpAny_letGo (wpAny_pure ?_)))))))))))) 
   by_cases z:bt j (argBest bt (j - 1))=true
   .rw[if_pos z] at ab;rw[z];have q:=PySem.IsL.update hS' (fun _=>#[vs[j],vs[j]]);refine wpAny_bind (wpAny_updateSeq hS' rfl (wpAny_bind (wpAny_letGo (wpAny_pure ⟨plainId_quiet F.plain_min_loop _, ?_⟩))) (show (2:Nat)<=sizeLine by decide) (show (2:Nat)<=sizeLine+1 by decide));refine next _ vs[j] _ (fun b o b1 b2 e=>?_) (zeN hIS hi') (by rw[ab];exact ej) q
    show (h'.update S _).get? b=some o
    rw[Heap.get?_update_other h' _ (Ne.symm b2)];exact same b o b1 b2 e
   .rw[if_neg z] at ab;have z':bt j (argBest bt (j - 1))=false:=by simpa using z
    rw[z'];exact wpAny_bind (wpAny_letGo (wpAny_pure ⟨plainId_quiet F.plain_min_loop _,next _ vb n same hi' (by rw[ab];exact eb) hS'⟩))
theorem zmy {prog:Program} {w:World} {A:Around} {l:Addr} {vs:Array Value} {bt:Nat->Nat->Bool} {s:Shared} {Q E:Value->Shared->Prop} (hA:A.handled=none) (L:s.heap.IsList l vs)
  (C:∀(i j:Nat) (vi vj:Value),vs[i]? = some vi->vs[j]? = some vj->∀(s':Shared),(∀b o,s.heap.get? b=some o->s'.heap.get? b=some o)->∀(Q E:Value->Shared->Prop),Q (.bool (bt i j)) s'->wpAny 052 A.in1 (richCompare CmpOp.Lt vi vj) Q E s')
  (hQ:∀(v:Value) (h':Heap),zke vs bt=some v->(∀b o,s.heap.get? b=some o->h'.get? b=some o)->Q v { s with heap:=h' }) :
  wpAny 052 A (call (Value.builtin "min") [Value.ref l] [(Str.ofString "default",Value.none)]) Q E s:=by
 refine wpAny_call (codeAny_call_builtin F.plain_min F.entry_min ?_);rw[show checkBuiltinCall "min" { pos:=[Value.ref l],kw:=[(Str.ofString "default",Value.none)] }=pure () from rfl];refine wpAny_pure ?_;unfold Builtin.min;refine wpAny_bind ?_
 change wpAny 052 A.in1 (pure [none,some Value.none]) _ _ s
 refine wpAny_pure (wpAny_bind (wpAny_pure (wpAny_bind (wpAny_pyIter_list L (wpAny_bind (wpAny_newList (items:=[]) ?_ (by decide)))))));have old:∀(b:Addr) (o:Obj),s.heap.get? b=some o->b < s.heap.objs.size:=fun b o e=>by
  rcases Nat.lt_or_ge b s.heap.objs.size with h | h
  .exact h
  .rw[Heap.get?] at e;simp[Array.getElem?_eq_none h] at e
 have sz:(s.heap.push { cls:=Value.type "list_iterator",data:=Data.fields #[Value.ref l,Value.int 0 0] }).objs.size=s.heap.objs.size+1:=by simp[Heap.push]
 have it0:((s.heap.push { cls:=Value.type "list_iterator",data:=Data.fields #[Value.ref l,Value.int 0 0] }).push { cls:=Value.type "list",data:=Data.seq #[] }).IsListIter s.heap.objs.size l 0:=
  ⟨_,Heap.get?_push_of_some _ (Heap.get?_push_size _ rfl),rfl,rfl⟩
 have kept:∀(b:Addr) (o:Obj),s.heap.get? b=some o->((s.heap.push { cls:=Value.type "list_iterator",data:=Data.fields #[Value.ref l,Value.int 0 0] }).push { cls:=Value.type "list",data:=Data.seq #[] }).get? b=some o:=fun b o e=>Heap.get?_push_of_some _ (Heap.get?_push_of_some _ e)
 have ll:l < s.heap.objs.size:=by
  obtain ⟨o,e,_⟩:=L;exact old _ _ e
 have L2':((s.heap.push { cls:=Value.type "list_iterator",data:=Data.fields #[Value.ref l,Value.int 0 0] }).push { cls:=Value.type "list",data:=Data.seq #[] }).IsList l vs:=by
  obtain ⟨o,e,c⟩:=L;exact ⟨o,kept _ _ e,c⟩
 have back:∀h',zkO s.heap.objs.size (s.heap.push { cls:=Value.type "list_iterator",data:=Data.fields #[Value.ref l,Value.int 0 0] }).objs.size ((s.heap.push { cls:=Value.type "list_iterator",data:=Data.fields #[Value.ref l,Value.int 0 0] }).push { cls:=Value.type "list",data:=Data.seq #[] }) h'->∀b o,s.heap.get? b=some o->h'.get? b=some o:=fun h' k b o e=>
  k b o (fun z=>absurd (old b o e) (by rw[z];exact Nat.lt_irrefl _)) (fun z=>absurd (old b o e) (by rw[z,sz];exact Nat.not_lt.mpr (Nat.le_succ _))) (kept b o e)
 exact wpAny_pure ⟨plainId_quiet F.plain_min_loop _,zll hA (fun z=>Nat.succ_ne_self _ (sz.symm.trans z)) (Nat.ne_of_lt ll) (fun z=>absurd ll (by rw[z];exact fun y=>absurd (sz ▸ y) (Nat.not_lt.mpr (Nat.le_succ _)))) L2' (fun i j vi vj e1 e2 s' k=>C i j vi vj e1 e2 s' (back _ k)) vs.size 0 _ rfl (Nat.zero_le _) (fun _ _ _ _ e=>e) it0 (.inl ⟨rfl,_,Heap.get?_push_size _ rfl⟩) fun v h' e k=>hQ v h' e (back h' k)⟩
def PairAt (h:Heap) (v:Value) (i:Int) (xs:List Int):Prop:=∃a o t b n ob its nb,v=.ref a/\h.get? a=some o/\o.cls=Value.type "tuple"/\o.data=Data.seq #[.int i t,.ref b] n/\h.get? b=some ob/\ob.cls=Value.type "list"/\ob.data=Data.seq its nb/\zmB its xs/\IntsAre its.toList xs
theorem PairAt.keep {h h':Heap} {v:Value} {i:Int} {xs:List Int} (p:PairAt h v i xs) (k:∀b o,h.get? b=some o->h'.get? b=some o):PairAt h' v i xs:=by
 obtain ⟨a,o,t,b,n,ob,its,nb,e,h1,h2,h3,h4,h5,h6,h7⟩:=p;exact ⟨a,o,t,b,n,ob,its,nb,e,k _ _ h1,h2,h3,k _ _ h4,h5,h6,h7⟩
theorem zmx {h:Heap}:∀{us:List Value} {xs:List Int} {as:List Addr},ReadsAll h us (xs.map PyData.int) as->us.length=xs.length/\(∀(j:Nat) (x:Int),xs[j]? = some x->∃t,us[j]? = some (.int x t))/\IntsAre us xs
 | _,[],_,r=>by cases r;exact ⟨rfl,fun j x e=>by simp at e,.nil⟩
 | _,x::xs,_,r=>by
  cases r with
  | cons a b=>
   cases a with
   | int i t=>
    obtain ⟨h1,h2,h3⟩:=zmx b;refine ⟨by simp[h1],fun j y e=>?_,.cons _ t h3⟩
    cases j with
    | zero=>cases e;exact ⟨t,rfl⟩
    | succ j=>exact h2 j y (by simpa using e)
theorem PairAt.of {h:Heap} {v:Value} {i:Int} {xs:List Int} {as:List Addr} (r:Reads h v (.tuple [.int i,.list (xs.map PyData.int)]) as):PairAt h v i xs:=by
 cases r with
 | @tuple a o vs n _ _ h1 h2 h3 ra=>
  obtain ⟨us,rfl⟩:∃us:List Value,vs=us.toArray:=⟨vs.toList,by simp⟩
  replace ra:ReadsAll h us [.int i,.list (xs.map PyData.int)] as:=by simpa using ra
  cases ra with
  | cons q1 ra=>
   cases ra with
   | cons q2 ra=>
    cases ra
    cases q1 with
    | int _ t=>
     cases q2 with
     | @list b ob its nb _ _ g1 g2 g3 rb=>
      obtain ⟨z1,z2,z3⟩:=zmx rb;refine ⟨a,o,t,b,n,ob,its,nb,rfl,h1,h2,h3,g1,g2,g3,⟨by simpa using z1,fun j x e=>?_⟩,z3⟩;obtain ⟨u,e⟩:=z2 j x e;exact ⟨u,by simpa using e⟩
theorem zks:∀xs ys:List Int,PyData.eqvAll (xs.map PyData.int) (ys.map PyData.int)=decide (xs=ys)
 | [],[]=>by simp[PyData.eqvAll]
 | [],_::_=>by simp[PyData.eqvAll]
 | _::_,[]=>by simp[PyData.eqvAll]
 | x::xs,y::ys=>by
  have:=zks xs ys
  by_cases h:x=y<;>simp[PyData.eqvAll,PyData.eqv,this,h]
theorem zhS:∀xs:List Int,PyData.canLayAll0 (xs.map PyData.int)=true/\PyData.depthAll (xs.map PyData.int)=0
 | []=>⟨rfl,rfl⟩
 | x::xs=>by
  obtain ⟨a,b⟩:=zhS xs;exact ⟨by simp[PyData.canLayAll0,PyData.canLay0,a],by simp[PyData.depthAll,PyData.depth,b]⟩
theorem zmM {prog:Program} {w:World} {A:Around} {s:Shared} {v u:Value} {i j:Int} {xs ys:List Int} (hu:A.units+10 < cLine) (p:PairAt s.heap v i xs) (q:PairAt s.heap u j ys) {E Q:Value->Shared->Prop} (h:Q (.bool (ltP i xs j ys)) s):wpAny 052 A (richCompare CmpOp.Lt v u) Q E s:=by
 obtain ⟨a,o,t,b,n,ob,its,nb,rfl,h1,h2,h3,h4,h5,h6,h7,h8⟩:=p;obtain ⟨a',o',t',b',n',ob',its',nb',rfl,g1,g2,g3,g4,g5,g6,g7,g8⟩:=q;have lx:=zhS xs;have ly:=zhS ys;refine richCompare_meets_room (T:="tuple") ⟨o,h1,h2⟩ ⟨o',g1,g2⟩ F.slot_tuple_lt F.entry_tuple_lt (F.args_tuple_lt_2 _ _) (zpY a a' i j t t' (.ref b) (.ref b') n n' xs ys) ⟨⟨o,h1,h3⟩,⟨o',g1,g2,g3⟩, ?_, ?_,⟨(fun z=>nomatch z),h⟩⟩ ∅
 .have e:=SeqAt.eqAt_reads (.list (xs.map PyData.int)) (.list (ys.map PyData.int)) A.in1 s (.ref b) (.ref b') _ _ (.list h4 h5 h6 (h8.reads s.heap)) (.list g4 g5 g6 (g8.reads s.heap)) (by simp[PyData.canLay0,lx.1]) (by simp[PyData.canLay0,ly.1]) (by simp only[PyData.depth,lx.2,ly.2];show A.units+1+_ < _;omega)
  have:PyData.eqv (.list (xs.map PyData.int)) (.list (ys.map PyData.int))=decide (xs=ys):=by
   simp only[PyData.eqv];exact zks xs ys
  rwa [this] at e
 .intro prog w E Q hQ;exact richCompare_meets_room (T:="list") ⟨ob,h4,h5⟩ ⟨ob',g4,g5⟩ F.slot_list_lt F.entry_list_lt (F.args_list_lt_2 _ _) (zpm b b' its its' nb nb' xs ys h7 g7) ⟨⟨ob,h4,h6⟩,⟨ob',g4,g5,g6⟩,⟨(fun z=>nomatch z),hQ⟩⟩ (by show A.units+1 < _;omega)
def ziM:PyData->Option 0013
 | .tuple [.int i,.list ds]=>(dIs ds).map fun xs=>(i,xs)
 | _=>none
theorem zmt {d:PyData} {p:Int×List Int} (h:ziM d=some p):d=.tuple [.int p.1,.list (p.2.map PyData.int)]:=by
 unfold ziM at h;split at h
 .rename_i i ds
  cases e:dIs ds with
  | none=>rw[e] at h;cases h
  | some xs=>rw[e] at h;cases h;rw[zmZ e]
 .cases h
def zdT:List PyData->Option (List 0013)
 | []=>some []
 | d::ds=>match ziM d,zdT ds with
  | some p,some ps=>some (p::ps)
  | _,_=>none
theorem zgn:∀{ds:List PyData} {ps:List 0013},zdT ds=some ps->ds.length=ps.length/\∀(j:Nat) (d:PyData),ds[j]? = some d->∃p,ps[j]? = some p/\d=.tuple [.int p.1,.list (p.2.map PyData.int)]
 | [],ps,h=>by cases h;exact ⟨rfl,fun j d e=>by simp at e⟩
 | d::ds,ps,h=>by
  rw[zdT] at h
  cases e:ziM d with
  | none=>rw[e] at h;cases h
  | some p=>
   cases e2:zdT ds with
   | none=>rw[e,e2] at h;cases h
   | some qs=>
    rw[e,e2] at h;cases h;obtain ⟨a,b⟩:=zgn e2;refine ⟨by simp[a],fun j x hx=>?_⟩
    cases j with
    | zero=>cases hx;exact ⟨p,rfl,zmt e⟩
    | succ j=>exact b j x (by simpa using hx)
def zdS (ps:List 0013) (i j:Nat):Bool:=match ps[i]?,ps[j]? with
 | some p,some q=>ltP p.1 p.2 q.1 q.2
 | _,_=>false
def zis (o:O):Option O:=match els o with
 | some (true,os)=>match lds os with
  | some ds=>match zdT ds with
   | some ps=>if ds=[] then some 042 else (ds[argBest (zdS ps) (ds.length - 1)]?).map O.d
   | none=>none
  | none=>none
 | _=>none
theorem zqo {X:Cx} {e:Expr} {t:TE} {p pos kp cp:Pos} {jj} (hg:Gl X "min") (hm:X.mg "min"=none) (hc:X.calm=true) (hu:X.A.units+64 < cLine) (ha:PE X e t)
  (hs:starEach [e] X.env=[034]:=by rfl) (he:backTo pos (starEach [e] X.env)=034::backTo pos (starEach [] X.env):=by rfl) (hpl:(backTo pos (starEach [e] X.env)).any (·.1)=false:=by rfl) :
  PE X (.Call (.Name "min" p) [e] [⟨some "default",.Constant .none jj cp,kp⟩] pos) fun σ H Q=>t σ H fun x H1=>rV1 X.mg X.K zis x H1 Q:=by
 intro pins s σ H Q I h;have hA:X.A.handled=none:=I.ok.hd hc;refine wpAny_Call_Name_kw (zgs I hg hm PyProof.Rows.boot_min ?_);have hPA:PA X [e] (zhQ t tNil):=zdW ha ze4 hs;have hPK:PK X [⟨some "default",.Constant .none jj cp,kp⟩] (zhQ (tC .non) tNil):=zp5 zow zsL
 let Q1:List V->Hp->Prop:=fun xs H1=>match xs with
  | [x]=>rV1 X.mg X.K zis x H1 Q
  | _=>False
 have h1:zhQ t tNil σ H Q1:=h;refine PyProof.Rows.callWith_kw (thn (hPA pos pins s σ H _ I h1) fun us s1 ⟨vs,H1,I1,r1,q1⟩=>?_) he hpl;have h2:zhQ (tC .non) tNil σ H1 (fun zs H2=>zs=[.non]/\Q1 vs H2):=⟨rfl,q1⟩;refine thn (hPK pos pins s1 σ H1 _ I1 h2) fun ws s2 hx__=>?_
 obtain ⟨zs,H2,I2,rz,e3,q2⟩:=hx__;subst e3;obtain ⟨u2,rfl,ru2⟩:=zgf rz;cases ru2
 cases vs with
 | nil=>exact False.elim q2
 | cons x vs=>
  cases vs with
  | cons _ _=>exact False.elim q2
  | nil=>
   obtain ⟨u,rfl,ru⟩:=zgf r1;obtain ⟨W,ox,As,z,o1,dm,hf,q⟩:=(q2:rV1 X.mg X.K zis x H2 Q);unfold zis at hf;split at hf
   .rename_i os e1
    cases e2:lds os with
    | none=>rw[e2] at hf;cases hf
    | some ds=>
     rw[e2] at hf;dsimp only at hf
     cases e3:zdT ds with
     | none=>rw[e3] at hf;cases hf
     | some ps=>
      rw[e3] at hf;dsimp only at hf;obtain ⟨a,ws,A',rfl,g1,g2,_⟩:=o1.els e1;rw[zjN e2] at g2;obtain ⟨dn,_⟩:=Ows.toD g2;cases ru;obtain ⟨hz,its,n,rv,hl,eg⟩:=I2.lstM g1;obtain ⟨pl,pg⟩:=zgn e3;have dl:=dn.length;have L:s2.heap.IsList a its.toArray:=⟨_,eg,rfl,n,rfl⟩
      -- what stands at a place
      have at_:∀(j:Nat) (v:Value),its.toArray[j]? = some v->∃x0 d p,ws[j]? = some x0/\RelV x0 v/\ds[j]? = some d/\Dn H2 W x0 d/\ps[j]? = some p/\PairAt s2.heap v p.1 p.2:=fun j v ej=>by
       have ej':its[j]? = some v:=by simpa using ej
       have hj:j < ws.length:=by rw[hl];exact (List.getElem?_eq_some_iff.mp ej').1
       obtain ⟨w,e5,rw5⟩:=rv.get (List.getElem?_eq_getElem hj);rw[ej'] at e5;cases e5;obtain ⟨d,e6,dd⟩:=dn.getV (List.getElem?_eq_getElem hj);obtain ⟨p,e7,rfl⟩:=pg j d e6;obtain ⟨as,rd⟩:=dd.reads I2 rw5;exact ⟨_,_,p,List.getElem?_eq_getElem hj,rw5,e6,dd,e7,PairAt.of rd⟩
      refine zmy (bt:=zdS ps) hA L (fun i j vi vj e1 e2 s' k Q E hq=>?_) (fun v h' eb k=>?_)
      .obtain ⟨_,_,p,_,_,_,_,e5,pa⟩:=at_ i vi e1;obtain ⟨_,_,p',_,_,_,_,e6,pb⟩:=at_ j vj e2;unfold zdS at hq;rw[e5,e6] at hq;exact zmM (by show X.A.units+1+10 < _;omega) (pa.keep k) (pb.keep k) hq
      .have I3:Inv X pins σ H2 { s2 with heap:=h' }:=I2.kept (t':=s2.toks) k;unfold zke at eb
       by_cases ez:its.toArray.size=0
       .rw[if_pos ez] at eb;cases eb
        have:ds=[]:=List.length_eq_zero_iff.mp (by rw[<-dl,hl];simpa using ez)
        rw[if_pos this] at hf;cases hf;exact ⟨.non,H2,I3,rfl,q _ H2 W [] .refl (.d .non)⟩
       .rw[if_neg ez] at eb;have nz:ds≠[]:=fun z=>ez (by rw[z] at dl;simpa [hl] using dl)
        rw[if_neg nz] at hf;obtain ⟨x0,d,p,e5,rx,e6,dd,_,_⟩:=at_ _ v eb
        have:its.toArray.size=ds.length:=by rw[<-dl,hl];simp
        rw[this] at e6;rw[e6] at hf;cases hf;exact ⟨x0,H2,I3,rx,q _ H2 W [] .refl (.d dd)⟩
   .cases hf
theorem zpB {X:Cx} {E:XK} {e:Expr} {A:EF} {p pos kp cp:Pos} {jj} (hg:Gl X "min") (hm:X.mg "min"=none) (hc:X.calm=true) (hu:X.A.units+64 < cLine) (ha:VR X E e A)
  (hs:starEach [e] X.env=[034]:=by rfl) (he:backTo pos (starEach [e] X.env)=034::backTo pos (starEach [] X.env):=by rfl) (hpl:(backTo pos (starEach [e] X.env)).any (·.1)=false:=by rfl) :
  VR X E (.Call (.Name "min" p) [e] [⟨some "default",.Constant .none jj cp,kp⟩] pos) (e1 A zis):=(zqo hg hm hc hu ha hs he hpl).imp fun σ H Q h=>vr1 (X:=X) h
end L2
noncomputable section
namespace My
open PySem L2
def zcF:SF:=(sSeq (sAsg coe (zah 01 zan (zac (zaa 0) (zac (zaa 1) (zac (zaa 2) (zac (eFz (zah 01 zaS (zac (zaa 0) (zac (zaa 1) (zac (zaa 2) (zac (zaa 5) aNil)))))) aNil))))) (gtN 7))
  (sIf (gOr (tst (e2 (e2 (zaa 6) 013 (fIs false)) (e2 (zaa 7) 013 (fIs false)) 0000)) (gAnd (tst (e2 (zaa 6) 013 (fIs true))) (tst (e2 (e2 (zaa 3) (zaa 6) fAdd) (zaa 7) 0000)))) 005 sNil))
def zf1:SF:=(sSeq (zfD (srcM false 001 (zaa 4)) (gtT (zaf (gtN 5) (zaf (gtN 6) zaV))) zcF)
  (sRet mov (eC (.bool true))))
def zc4:FC:=runF [false,false,false,false,false] 8 zf1
def zbM:EF:=(zaa 0)
def zbl:TF:=(tst (e2 (zaa 0) 013 (fIs true)))
def zfv:SF:=(sSeq (sAsg coe (eLS (srcM true 001 (zaa 0)) [none] (gtN 0) zbl zbM) (gtN 0))
  (sSeq (sIf (tst (e2 (zaa 0) (zaA coes .l aNil) (fEq false))) (sRet mov 013) sNil)
  (sRet mov (eB 030 (f1 fMin)))))
def za1:FC:=runF [false] 1 zfv
def zbY:SF:=(sSeq (sAsg coe (eFz (zah 01 zcC 032)) (gtN 7))
  (sSeq (sAsg coe (zah 01 zan (zac (zaa 0) (zac (zaa 1) (zac (zaa 2) (zac (eFz (zah 01 zaS 032)) aNil))))) (gtN 8))
  (sSeq (sIf (tst (e2 (zah [false] za1 (zac (zaA coes .l (zac (zah [false] zaX 0001) (zac (zaa 8) aNil))) aNil)) (zaa 3) 0000)) 005 sNil)
  (sSeq (sIf 033 005 sNil)
  (sSeq (sIf 039 (zbd (eApp (zaa 4) (zaa 6))) sNil)
  (sIf 0021 (zbd (eApp (zaa 5) (zaa 6))) sNil))))))
def zb0:EF:=069
def zfX:SF:=(sSeq (sAsg coe (zah 01 zan (zac (zaa 0) (zac (zaa 1) (zac (zaa 2) (zac (eFz (zah 05 zbB 07)) aNil))))) (gtN 3))
  (sSeq (sAsg coe (zaA coes .l aNil) (gtN 4))
  (sSeq (sAsg coe (zaA coes .l aNil) (gtN 5))
  (sSeq (sFor (itR1 (eB (zac 059 aNil) (f1 fLen))) (gtN 6) zbY)
  (sSeq (sIf (gOr (tst (e2 (zah 05 zcw 07) (zaa 4) 0000)) (tst (e2 (zah 05 zc8 07) (zaa 5) 0000))) 005 sNil)
  (sSeq (sAsg coe (eFz (zah 05 zbT 07)) (gtN 9))
  (sRet coe (eAnd (e2 (eLS (srcM true 001 (zaa 9)) [none] (gtN 0) 055 zb0) (zaa 5) (fEq false)) (zah [false,false,false,false,false] zc4 (zac (zaa 0) (zac (zaa 1) (zac (zaa 2) (zac (zaa 3) (zac (zaa 9) aNil))))))))))))))
def zcp:FC:=runF 05 10 zfX
def zbD:EF:=(zah [false] zaX (zac (eFz (zah 01 zas (zac (zaa 1) (zac (zaa 2) (zac (zaa 3) 030))))) aNil))
def zcs:SF:=(sSeq (sAsg coe (eFz (zah 01 zas (zac (zaa 0) (zac (zaa 1) (zac (zaa 3) (zac (zaa 6) aNil)))))) (gtN 8))
  (sSeq (sAsg coe (eFz (zah 01 zas (zac (zaa 0) (zac (zaa 3) (zac (zaa 2) 0001))))) (gtN 9))
  (sSeq (sAsg coe (eFz (zah 01 zas (zac (zaa 0) (zac (zaa 1) (zac (zaa 2) (zac (e2 (zaa 6) (zaa 7) fAdd) aNil)))))) (gtN 10))
  (sIf (gAnd (tst (e2 (zaa 8) 013 (fIs true))) (gAnd (tst (e2 (zaa 9) 013 (fIs true))) (gOr (tst (e2 (zaa 10) 013 (fIs false))) (tst (e2 (eIx (zaa 10) ↥0) (e2 (eIx (zaa 8) ↥0) (eIx (zaa 9) ↥0) fAdd) fGt))))) 005 sNil))))
def zcr:SF:=(sSeq (sAsg coe (eFz (zah 01 zas 032)) (gtN 11))
  (sSeq (sIf (gAnd (tst (e2 (zaa 11) 013 (fIs true))) (tst (e2 (eB (zac (eIx (zaa 11) ↥1) aNil) (f1 fLen)) (zaa 6) 0000))) 005 sNil)
  (sIf (gAnd (tst (e2 (zaa 11) 013 (fIs true))) (tst (e2 (zah 01 zbn (zac (zaa 0) (zac (zaa 1) (zac (zaa 2) (zac (eIx (zaa 11) ↥1) aNil))))) (eIx (zaa 11) ↥0) 0000))) 005 sNil)))
def zfx:SF:=(sSeq (sAsg coe (eFz (zah [false] zbi 030)) (gtN 4))
  (sSeq (sAsg coe (eLC (itR1 069) 0016 (gtN 0) 055 zbD) (gtN 5))
  (sSeq (sIf (tst (e2 (zah [false] za1 (zac (zaa 5) aNil)) (eIx (eIx (zaa 4) (zaa 1)) (zaa 2)) 0000)) 005 sNil)
  (sSeq (zfD (srcM false 001 (zaA coes .l (zac (zaA coes mkT (zac ↥1 (zac ↥2 aNil))) (zac (zaA coes mkT (zac ↥3 (zac ↥4 aNil))) (zac (zaA coes mkT (zac ↥0 (zac ↥5 aNil))) aNil))))) (gtT (zaf (gtN 6) (zaf (gtN 7) zaV))) zcs)
  (sSeq (zfD (srcM false 001 (zaA coes .l (zac ↥2 (zac ↥14 aNil)))) (gtN 6) zcr)
  (sRet mov (eC (.bool true))))))))
def zca:FC:=runF 01 12 zfx
def zdo (F:FC):SF:=(zbd (eApp (zaa 1) (e2 (zaA coes .l (zac (zaa 3) aNil)) (zaa 4) fAdd)))
def zdk (F:FC):SF:=(zfD (srcM false 001 (zah [false] F (zac (e2 (eSl (zaa 0) oNo (zcZ (zaa 2))) (eSl (zaa 0) (zcZ (e2 (zaa 2) ↥1 fAdd)) oNo) fAdd) aNil))) (gtN 4) (zdo F))
def zdV (F:FC):SF:=(sSeq (sIf (gNot (eSc trV (zaa 0))) (sRet mov (zaA movs .l (zac (zaA movs .l aNil) aNil))) sNil)
  (sSeq (sAsg coe (zaA coes .l aNil) (gtN 1))
  (sSeq (sFor (itE (zaa 0)) (gtT (zaf (gtN 2) (zaf (gtN 3) zaV))) (zdk F))
  (sRet mov (zaa 1)))))
def za3:Nat->FC
 | 0=>runF [false] 5 sBad
 | m+1=>runF [false] 5 (zdV (za3 m))
def zcB:EF:=(e2 (e2 (eSl (zaa 1) oNo (zcZ ↥1)) (zaa 0) fAdd) (eSl (eSl (zaa 1) (zcZ ↥1) oNo) (zcZ ↥(-1)) oNo) fAdd)
def zem:SF:=(sRet coe (eLS (srcM false 001 (zah [false] (za3 6) (zac (eSl (zaa 0) (zcZ ↥1) (zcZ ↥(-1))) aNil))) [none,some 0] (gtN 0) 055 zcB))
def za5:FC:=runF [false] 1 zem
def zbH:EF:=(zaA coes mkT (zac (zah 06 zbs (zac (zaa 1) 030)) 030))
def zbF:EF:=(zaA coes mkT 006)
def zbG:TF:=(tst (e2 (zaa 0) 013 (fIs true)))
def zfp:SF:=(sSeq (sAsg coe (eFz (zah 06 zco 006)) (gtN 2))
  (sSeq (sAsg coe (eLS (srcM false 001 (zah [false] za5 047)) [none,some 2] (gtN 0) 055 zbH) (gtN 3))
  (sRet coe (e1 (eLS (srcM true 001 (zaa 3)) [none,none] (gtT 024) zbG zbF) zis))))
def zbj:FC:=runF 06 4 zfp
def zbr:EF:=(eIx (eIx (zaa 2) (zaa 0)) (zaa 1))
def zf0:SF:=(sSeq (sAsg coe (eFz (zah [false] zbi 030)) (gtN 2))
  (sSeq (sAsg coe (zah [false] zaJ (zac (eLC (itZ 011) [none,none,some 2] (gtT 024) 055 zbr) aNil)) (gtN 3))
  (sSeq (sAsg coe (eFz (zah 06 zbj 006)) (gtN 4))
  (sSeq (sIf (tst (e2 (zah 06 zbU 006) (zaa 3) 0000)) 005 sNil)
  (sSeq 091
  (sSeq (sIf (gOr (tst (e2 (eB (zac 090 aNil) (f1 zc5)) (eB 047 (f1 zc5)) 0000)) (gOr (tst (e2 (eIx 090 ↥0) (eIx (zaa 1) ↥0) 0000)) (tst (e2 (eIx 090 ↥(-1)) (eIx (zaa 1) ↥(-1)) 0000)))) 005 sNil)
  (sRet coe (eAnd (e2 (zah 06 zbU (zac (zaa 0) (zac 090 aNil))) (eIx (zaa 4) ↥0) (fEq false)) (eOr (e2 (zaa 3) 013 (fIs false)) (e2 (eIx (zaa 4) ↥0) (zaa 3) fLe))))))))))
def zbo:FC:=runF 06 5 zf0
def zdw:EF:=(zah 086 zak (zac (zaa 1) (zac (e2 (zaa 2) ↥1 fAdd) aNil)))
def zer:SF:=(sSeq (sAsg coe (zah 06 zbS 006) (gtN 2))
  (sSeq (sAsg coe (zah [true,false,false] zck (zac (zaa 2) (zac ↥6 (zac ↥9 aNil)))) (gtT (zaf (gtN 3) (zaf (gtN 4) zaV))))
  (sSeq (sAsg coe (zaA coes mkT (zac (e2 (zaa 3) ↥1 fAdd) (zac (zaa 4) aNil))) (gtN 5))
  (sSeq (sAsg coe (eLC (itR1 ↥4) [none,some 2,some 3] (gtN 0) 055 zdw) (gtL (zaf (gtN 6) (zaf (gtN 7) (zaf (gtN 8) (zaf (gtN 9) zaV))))))
  (sSeq (sIf (gOr (gNot (eSc trV (zah 05 zcp (zac (zaa 5) (zac (zaa 6) 0001))))) (gNot (eSc trV (zah 01 zca (zac (zaa 5) (zac (zaa 6) (zac (zaa 7) (zac (zaa 8) aNil)))))))) 005 sNil)
  (sSeq (sAsg coe (zah 05 zb8 (zac (zaa 5) (zac (zaa 6) 0001))) (gtT (zaf (gtN 10) (zaf (gtN 11) zaV))))
  (sSeq (sIf 049 005 sNil)
  (sIf (gOr (gNot (eSc trV (zah 06 zbo (zac (zaa 5) (zac (zaA coes .l (zac (zaa 6) (zac (zaa 8) (zac (zaa 9) (zac (zaa 6) 0001))))) aNil))))) (gNot (eSc trV (zah 06 zbo (zac (zaa 5) (zac (zaA coes .l (zac (zaa 6) aNil)) aNil)))))) 005 sNil))))))))
def zfw:SF:=(sSeq (sFor (itR1 ↥2) (gtN 1) zer)
  (sRet mov (eC (.bool true))))
end My
end
namespace My
open PySem L2
namespace F45
def zc0:Nat->List Int->List (List Int)
 | 0,_=>[]
 | m+1,S=>if S=[] then [[]] else (List.range S.length).flatMap fun k=>(zc0 m 018).map fun r=>S.getD k 0::r
def fac:Nat->Nat
 | 0=>1
 | n+1=>(n+1) * fac n
theorem zhI {A B:Type} {f:A->List B} {c:Nat}:∀(l:List A),(∀x∈l,(f x).length<=c)->(l.flatMap f).length<=l.length * c
 | [],_=>by simp
 | x::l,h=>by
  have a:=h x List.mem_cons_self;have b:=zhI l fun y hy=>h y (List.mem_cons_of_mem _ hy)
  rw[List.flatMap_cons,List.length_append,List.length_cons,Nat.succ_mul];omega
theorem zhr {S:List Int} {k:Nat} (hk:k < S.length):(S.take k++S.drop (k+1)).length=S.length - 1:=by
 rw[List.length_append,List.length_take,List.length_drop];omega
theorem zgb:∀(m:Nat) (S:List Int),(zc0 m S).length<=fac S.length
 | 0,S=>Nat.zero_le _
 | m+1,S=>by
  unfold zc0
  by_cases h:S=[]
  .rw[if_pos h,h];exact Nat.le_refl _
  .rw[if_neg h];have hz:0 < S.length:=List.length_pos_iff.mpr h
   have:=zhI (f:=fun k=>(zc0 m 018).map fun r=>S.getD k 0::r) (c:=fac (S.length - 1)) (List.range S.length) fun k hk=>by
    have hk:=List.mem_range.mp hk;rw[List.length_map]
    have:=zgb m 018
    rwa [zhr hk] at this
   rw[List.length_range] at this;obtain ⟨n,hn⟩:∃n,S.length=n+1:=⟨S.length - 1,by omega⟩;rw[hn] at this ⊢;exact this
theorem zpa {n:Nat} (h:n<=5):fac n<=120:=by
 match n,h with
 | 0,_=>decide
 | 1,_=>decide
 | 2,_=>decide
 | 3,_=>decide
 | 4,_=>decide
 | 5,_=>decide
theorem zfa:∀(m:Nat) (S o:List Int),o∈zc0 m S->o.Perm S
 | 0,S,o,h=>by cases h
 | m+1,S,o,h=>by
  unfold zc0 at h
  by_cases e:S=[]
  .rw[if_pos e] at h;rw[List.mem_singleton.mp h,e]
  .rw[if_neg e] at h;obtain ⟨k,hk,h⟩:=List.mem_flatMap.mp h;have hk:=List.mem_range.mp hk;obtain ⟨r,hr,rfl⟩:=List.mem_map.mp h;have p:=zfa m _ _ hr;have g:S.getD k 0=S[k]:=by rw[List.getD_eq_getElem?_getD,List.getElem?_eq_getElem hk];rfl
   have e1:S=S.take k++S[k]::S.drop (k+1):=by rw[<-List.drop_eq_getElem_cons hk,List.take_append_drop]
   rw[g];refine (p.cons _).trans ?_;exact (List.perm_middle (a:=S[k]) (l₁:=S.take k) (l₂:=S.drop (k+1))).symm.trans (.of_eq e1.symm)
theorem zj1:∀(m:Nat) (S o:List Int),S.length < m->o.Perm S->o∈zc0 m S
 | 0,S,o,h,_=>absurd h (Nat.not_lt_zero _)
 | m+1,S,o,h,p=>by
  unfold zc0
  by_cases e:S=[]
  .rw[if_pos e];rw[e] at p;rw[p.eq_nil];exact List.mem_singleton.mpr rfl
  .rw[if_neg e]
   cases o with
   | nil=>exact absurd p.symm.eq_nil e
   | cons x r=>
    have hx:x∈S:=p.mem_iff.mp List.mem_cons_self;obtain ⟨k,hk,e2⟩:=List.mem_iff_getElem.mp hx;have g:S.getD k 0=x:=by rw[List.getD_eq_getElem?_getD,List.getElem?_eq_getElem hk];exact e2
    have e1:S=S.take k++x::S.drop (k+1):=by rw[<-e2,<-List.drop_eq_getElem_cons hk,List.take_append_drop]
    refine List.mem_flatMap.mpr ⟨k,List.mem_range.mpr hk,List.mem_map.mpr ⟨r,zj1 m _ r (by rw[zhr hk];omega) ?_,by rw[g]⟩⟩;have q:(x::r).Perm (x::018):=p.trans ((List.Perm.of_eq e1).trans List.perm_middle);exact (List.perm_cons x).mp q
theorem zhn (L:List (List Int)):fzs (L.map zad)=some (L.map zai):=by
 induction L with
 | nil=>rfl
 | cons a L ih=>
  have:=zbK a
  rw[List.map_cons,fzs,this,ih];rfl
section
variable {F:FC}
theorem znK {w0:O} {T:List O} {k s:Int} {r:List Int} (hT:T.length<=1000) (hr:r.length<=100):zdo F [w0,.l T,⇑k,⇑s,.d (zai r)]=.nx [w0,.l (T++[zad (s::r)]),⇑k,⇑s,.d (zai r)]:=by
 have fa:fAdd (.l ([PyData.int s].map O.d)) (.d (.list (r.map PyData.int)))=some (.l (([PyData.int s]++r.map PyData.int).map O.d)):=F43.zmh (by simp;omega);have e:zad (s::r)=.l (([PyData.int s]++r.map PyData.int).map O.d):=by
  unfold zad;rw[List.map_append,List.map_map];rfl
 have ln:(1000:Nat) < sizeLine:=by decide
 rw[e];unfold zai at *;generalize ([PyData.int s]++r.map PyData.int).map O.d=X at *;generalize r.map PyData.int=R at *;exact za6 (zeK rfl rfl (zal (zaw 009 rfl 079 rfl) rfl rfl rfl rfl fa) rfl rfl (zcj (xs:=T) rfl ∅))
theorem zt0 {S:List Int} {T:List O} {k:Nat} {z4:O} {R:List (List Int)} (hF:F [zad 018]=.ok (.l (R.map zad)) []) (hk:k < S.length) (hS:S.length<=100) (hR:∀r∈R,r.length<=100) (hT:T.length+R.length<=1000) :
  ∃z4',zdk F [.d (zai S),.l T,⇑(k:Int),⇑(S.getD k 0),z4]=.nx [.d (zai S),.l (T++R.map fun r=>zad (S.getD k 0::r)),⇑(k:Int),⇑(S.getD k 0),z4']:=by
 have lS:(S.map PyData.int).length=S.length:=List.length_map _;have s1:=F32.zht (ds:=S.map PyData.int) (a:=(k:Int)) ∅ (by rw[lS];omega);have s2:=F32.zf7 (ds:=S.map PyData.int) (a:=(k:Int)+1) ∅ (by rw[lS];omega);have fa:fAdd (.l (((S.map PyData.int).take ((k:Int)).toNat).map O.d)) (.l (((S.map PyData.int).drop ((k:Int)+1).toNat).map O.d))=some (zad 018):=by
  rw[zlb (by simp;omega)];unfold zad;have e1:((k:Int)+1).toNat=k+1:=by omega
  rw[Int.toNat_natCast,e1,<-List.map_take,<-List.map_drop,<-List.map_append,List.map_map];rfl
 have fr:fz (.l (R.map zad))=some (.list (R.map zai)):=by rw[fz,zhn];rfl
 obtain ⟨ρ',e,z4',rfl⟩:=zbZ (G:=gtN 4) (S:=zdo F) (items:=(R.map zai).map O.d) (ρ:=[.d (zai S),.l T,⇑(k:Int),⇑(S.getD k 0),z4])
  (fun i ρ=>∃z,ρ=[.d (zai S),.l (T++(R.take i).map fun r=>zad (S.getD k 0::r)),⇑(k:Int),⇑(S.getD k 0),z]) ⟨z4,by simp⟩ (fun i x ρ hx hx__=>by
   obtain ⟨z,e⟩:=hx__;subst e;rw[List.getElem?_map,List.getElem?_map] at hx;obtain ⟨y,hy,rfl⟩:=Option.map_eq_some_iff.mp hx;obtain ⟨r,hr,rfl⟩:=Option.map_eq_some_iff.mp hy;have hi:i < R.length:=(List.getElem?_eq_some_iff.mp hr).1;have e3:R.take (i+1)=R.take i++[r]:=by
    rw[List.take_succ,hr];rfl
   refine ⟨_,_,rfl,znK (by simp only[List.length_append,List.length_map,List.length_take];omega) (hR r (List.mem_of_getElem? hr)),.d (zai r), ?_⟩;rw[e3,List.map_append,<-List.append_assoc]
   rfl)
 have lR:((R.map zai).map O.d).length=R.length:=by simp
 refine ⟨z4', ?_⟩;rw[lR,List.take_length] at e;unfold zai at *;generalize S.map PyData.int=Sd at *;generalize zad 018=A at *;generalize R.map zad=Ro at *;exact F30.zeB (F30.zhT (zaI (zab (zal (zdv (q1:=true) (q2:=true) rfl rfl (ze9 09) rfl rfl s1) (zdv (q1:=true) rfl (ze9 (zaC 04 rfl rfl)) rfl rfl rfl s2) rfl rfl rfl fa) rfl rfl) rfl hF rfl rfl) fr) e
end
theorem znU (S:List Int):trV (zad S)=some (!S.isEmpty):=by
 unfold zad
 show (match els (.l (S.map fun h=>O.d (.int h))) with | some (_,os)=>some (!os.isEmpty) | none=>none)=_
 show some (!(S.map fun h=>O.d (.int h)).isEmpty)=_
 rw[List.isEmpty_map]
theorem zhw {S:List Int} {k:Nat} (hk:k < S.length):(S.take k++S.drop (k+1)).length+1=S.length:=by
 rw[zhr hk];omega
theorem ziF:∀(m:Nat) (S:List Int),S.length < m->S.length<=5->za3 m [zad S]=.ok (.l ((zc0 m S).map zad)) []
 | 0,S,h,_=>absurd h (Nat.not_lt_zero _)
 | m+1,S,h,h5=>by
  have tv:=znU S;have fS:=zbK S
  show runF [false] 5 (zdV (za3 m)) [zad S]=_
  unfold zc0
  by_cases e:S=[]
  .subst e;rw[if_pos rfl];exact zaY (n:=5) rfl (L2.zdQ (if_t (zuA 09) (zaL (zaw (zab 040 rfl rfl) rfl 079 rfl) rfl))) rfl
  .rw[if_neg e];have ne:S.isEmpty=false:=by cases S with
    | nil=>exact absurd rfl e
    | cons _ _=>rfl
   rw[ne] at tv;have rl:∀k,k < S.length->(zc0 m 018).length<=120:=fun k hk=>Nat.le_trans (zgb m _) (zpa (by rw[zhr hk];omega))
   have hF:∀k,k < S.length->za3 m [zad 018]=.ok (.l ((zc0 m 018).map zad)) []:=fun k hk=>ziF m _ (by have:=zhw hk;omega) (by have:=zhw hk;omega)
   obtain ⟨ρ',ef,hl,z2,z3,z4,rfl⟩:=zbZ (G:=gtT (zaf (gtN 2) (zaf (gtN 3) zaV))) (S:=zdk (za3 m)) (items:=zcy 0 020) (ρ:=[.d (zai S),.l [],.z,.z,.z])
    (fun i ρ=>i<=S.length/\∃z2 z3 z4,ρ=[.d (zai S),.l ((List.range i).flatMap fun k=>(zc0 m 018).map fun r=>zad (S.getD k 0::r)),z2,z3,z4]) ⟨Nat.zero_le _,_,_,_,rfl⟩ (fun i x ρ hx hx__=>by
     obtain ⟨hi,z2,z3,z4,er⟩:=hx__;subst er;obtain ⟨y,hy,rfl⟩:=zcT hx;rw[List.getElem?_map] at hy;obtain ⟨s,hs,rfl⟩:=Option.map_eq_some_iff.mp hy;rw[Nat.zero_add];have hk:i < S.length:=(List.getElem?_eq_some_iff.mp hs).1;have g:S.getD i 0=s:=by rw[List.getD_eq_getElem?_getD,hs];rfl
     have l1:=zhI (f:=fun k=>(zc0 m 018).map fun r=>zad (S.getD k 0::r)) (c:=120) (List.range i) fun k hk'=>by
      rw[List.length_map];exact rl k (by have:=List.mem_range.mp hk';omega)
     rw[List.length_range] at l1;have l2:=rl i hk;obtain ⟨z4',st⟩:=zt0 (T:=(List.range i).flatMap fun k=>(zc0 m 018).map fun r=>zad (S.getD k 0::r)) (z4:=z4) (hF i hk) hk ∅ (fun r hr=>by
      have:=(zfa m _ _ hr).length_eq
      have:=zhw hk
      omega) (by
      have:i * 120<=5 * 120:=Nat.mul_le_mul_right _ ∅
      omega)
     rw[g] at st;refine ⟨_,_,rfl,st,hk,⇑(i:Int),⇑s,z4', ?_⟩;rw[List.range_succ,List.flatMap_append,List.flatMap_cons,List.flatMap_nil,List.append_nil,g])
   have lS:(zcy 0 020).length=S.length:=by rw[zcR,List.length_map]
   rw[lS] at ef;have em:(((List.range S.length).flatMap fun k=>(zc0 m 018).map fun r=>S.getD k 0::r).map zad)=(List.range S.length).flatMap fun k=>(zc0 m 018).map fun r=>zad (S.getD k 0::r):=by
    rw[List.map_flatMap]
    congr 1
    funext k
    rw[List.map_map];rfl
   rw[em];have ie:itE (zaa 0) [zad S,.l [],.z,.z,.z]=.ok (zcy 0 020) [.d (zai S),.l [],.z,.z,.z] true:=by
    unfold zad at fS ⊢;unfold zai;generalize (S.map fun h=>O.d (.int h))=X at *;unfold itE
    show (match coe [.l X,.l [],.z,.z,.z] (.at 0 []) with | some (o,ρ2)=>(match fz o with | some (.list ds)=>Re.ok (zcy 0 ds) ρ2 true | _=>.bad) | none=>.bad)=_
    rw[zgX rfl fS];rfl
   generalize ((List.range S.length).flatMap fun k=>(zc0 m 018).map fun r=>zad (S.getD k 0::r))=Y at *;have n0:zaa 0 [zad S,.z,.z,.z,.z]=.ok (.at 0 []) [zad S,.z,.z,.z,.z] true:=rfl;have v0:vn [zad S,.z,.z,.z,.z] (.at 0 [])=some (zad S):=rfl;unfold zad at tv ie n0 v0 ⊢;generalize (S.map fun h=>O.d (.int h))=X at *;generalize zcy 0 020=En at *;exact zaY (n:=5) rfl (L2.zag (if_f (zho (zaC n0 v0 tv)) rfl) (L2.zag (zap 040 rfl rfl) (L2.zag (zgR ie ef) (zaL rfl rfl)))) rfl
open F42 (sumO legs)
theorem zhs {S:List Int} {w:O} (hw:w=.d (zai S)\/w=zad S) (lo hi:Option Int):fSl w lo hi=some (zad ((S.drop (HT.sIx S.length 0 lo)).take (HT.sIx S.length S.length hi - HT.sIx S.length 0 lo))):=by
 have e:∀T:List Int,zad T=.l ((T.map PyData.int).map O.d):=fun T=>by unfold zad;rw[List.map_map];rfl
 have f:els w=some (true,(S.map PyData.int).map O.d):=by
  rcases hw with rfl | rfl
  .rfl
  .rw[e];rfl
 unfold fSl;rw[f];dsimp only;rw[zd9,e];dsimp only;unfold cutD;rw[List.length_map];simp only[List.map_take,List.map_drop]
def midL (S:List Int):List Int:=(S.drop 1).take (S.length - 2)
def lasL (S:List Int):List Int:=(S.drop 1).drop (S.length - 2)
def ordB (S:List Int):List (List Int):=(zc0 6 (midL S)).map fun m=>S.take 1++m++lasL S
theorem zsh {S:List Int} (h:1<=S.length) {w:O} (hw:w=.d (zai S)\/w=zad S):fSl w (some 1) (some (-1))=some (zad (midL S)):=by
 rw[zhs hw];have a:HT.sIx S.length 0 (some 1)=1:=by
  show 094=1
  rw[if_neg (by decide)]
  show min 1 S.length=1
  omega
 have b:HT.sIx S.length S.length (some (-1))=S.length - 1:=by
  show (if (-1:Int) < 0 then (-1+(S.length:Int)).toNat else min (-1:Int).toNat S.length)=_
  rw[if_pos (by decide)];omega
 rw[a,b];unfold midL;rw[show S.length - 1 - 1=S.length - 2 by omega]
theorem zr5 {S:List Int} (h:1<=S.length) {w:O} (hw:w=.d (zai S)\/w=zad S):fSl w none (some 1)=some (zad (S.take 1)):=by
 rw[zhs hw];have a:HT.sIx S.length 0 none=0:=rfl;have b:HT.sIx S.length S.length (some 1)=1:=by
  show 094=1
  rw[if_neg (by decide)]
  show min 1 S.length=1
  omega
 rw[a,b];rfl
theorem zre {S:List Int} (h:1<=S.length) {w:O} (hw:w=.d (zai S)\/w=zad S):fSl w (some 1) none=some (zad 092):=by
 rw[zhs hw];have a:HT.sIx S.length 0 (some 1)=1:=by
  show 094=1
  rw[if_neg (by decide)]
  show min 1 S.length=1
  omega
 have b:HT.sIx S.length S.length none=S.length:=rfl;rw[a,b,List.take_of_length_le (by rw[List.length_drop];exact Nat.le_refl _)]
theorem zuf {S:List Int} (h:1<=S.length):fSl (zad 092) (some (-1)) none=some (zad (lasL S)):=by
 rw[zhs (.inr rfl)];have ld:(S.drop 1).length=S.length - 1:=List.length_drop;have a:HT.sIx (S.drop 1).length 0 (some (-1))=S.length - 2:=by
  show (if (-1:Int) < 0 then (-1+((S.drop 1).length:Int)).toNat else min (-1:Int).toNat (S.drop 1).length)=_
  rw[if_pos (by decide),ld];omega
 have b:HT.sIx (S.drop 1).length (S.drop 1).length none=(S.drop 1).length:=rfl;rw[a,b];unfold lasL;rw[List.take_of_length_le (by rw[List.length_drop];omega)]
theorem zey (S:List Int):(midL S).length=S.length - 2:=by
 unfold midL;rw[List.length_take,List.length_drop];omega
theorem zqc (S:List Int):S.take 1++midL S++lasL S=S:=by
 unfold midL lasL;rw[List.append_assoc,List.take_append_drop,List.take_append_drop]
theorem zgt {S o:List Int} (h:o∈ordB S):∃m,m.Perm (midL S)/\o=S.take 1++m++lasL S:=by
 obtain ⟨m,hm,rfl⟩:=List.mem_map.mp h;exact ⟨m,zfa _ _ _ hm,rfl⟩
theorem zn1 {S m:List Int} (h7:S.length<=7) (h:m.Perm (midL S)):S.take 1++m++lasL S∈ordB S:=
 List.mem_map.mpr ⟨m,zj1 _ _ _ (by rw[zey];omega) h,rfl⟩
theorem zh6 {S:List Int} (h7:S.length<=7):S∈ordB S:=by
 have:=zn1 h7 (.refl (midL S))
 rwa [zqc] at this
theorem zjx {S o:List Int} (h:o∈ordB S):o.Perm S:=by
 obtain ⟨m,p,rfl⟩:=zgt h
 have:(S.take 1++m++lasL S).Perm (S.take 1++midL S++lasL S):=(p.append_left _).append_right _
 rwa [zqc] at this
theorem zkd {S:List Int} (h7:S.length<=7):(ordB S).length<=120:=by
 unfold ordB;rw[List.length_map];exact Nat.le_trans (zgb _ _) (zpa (by rw[zey];omega))
def putO (S:List Int):O->O
 | .d (.list ds)=>.l (((S.take 1).map PyData.int++ds++(lasL S).map PyData.int).map O.d)
 | o=>o
theorem zkp (S m:List Int):putO S (.d (zai m))=zad (S.take 1++m++lasL S):=by
 show O.l _=O.l _
 rw[<-List.map_append,<-List.map_append,List.map_map];rfl
theorem zk1 {S:List Int} (h1:1<=S.length) (h7:S.length<=7):za5 [.d (zai S)]=.ok (.l ((ordB S).map zad)) []:=by
 have oo:=ziF 6 (midL S) (by rw[zey];omega) (by rw[zey];omega);have fo:fz (.l ((zc0 6 (midL S)).map zad))=some (.list ((zc0 6 (midL S)).map zai)):=by rw[fz,zhn];rfl
 have ms:=zsh h1 (w:=.d (zai S)) (.inl rfl);have sr:srcM false 001 (zah [false] (za3 6) (zac (eSl (zaa 0) (zcZ ↥1) (zcZ ↥(-1))) aNil)) [.d (zai S)]=.ok ((((zc0 6 (midL S)).map zai).map O.d,none),true) [.d (zai S)] false:=by
  generalize za3 6=F at *;generalize (zc0 6 (midL S)).map zad=Y at *;unfold zad at oo ms;generalize (midL S).map 0023=X at *;exact F42.zl5 (zaI (zab (zdv (q1:=true) (q2:=true) (q3:=true) rfl (ze9 (q:=true) 09) (ze9 (q:=true) 09) rfl rfl ms) rfl rfl) rfl oo rfl rfl) fo
 have l120:(zc0 6 (midL S)).length<=120:=Nat.le_trans (zgb _ _) (zpa (by rw[zey];omega));obtain ⟨q,e⟩:=F42.zk5 (js:=[none,some 0]) (G:=gtN 0) (A:=zcB) (putO S) sr (by simp;omega) (fun x hx=>by
  rw[List.map_map] at hx;obtain ⟨m,hm,rfl⟩:=List.mem_map.mp hx;have lm:m.length=S.length - 2:=by rw[(zfa _ _ _ hm).length_eq,zey]
  have s1:=zr5 h1 (w:=.d (zai S)) (.inl rfl);have s2:=zre h1 (w:=.d (zai S)) (.inl rfl);have s3:=zuf h1;have e1:∀T:List Int,zad T=.l ((T.map PyData.int).map O.d):=fun T=>by unfold zad;rw[List.map_map];rfl
  have l1:(S.take 1).length<=1:=by rw[List.length_take];omega
  have l2:(lasL S).length<=1:=by unfold lasL;rw[List.length_drop,List.length_drop];omega
  have a1:fAdd (zad (S.take 1)) (.d (zai m))=some (zad (S.take 1++m)):=by
   rw[e1,e1,List.map_append];exact F43.zmh (by simp only[List.length_map];omega)
  have a2:fAdd (zad (S.take 1++m)) (zad (lasL S))=some (zad (S.take 1++m++lasL S)):=by
   rw[e1,e1,e1,List.map_append (l₁:=S.take 1++m)];exact zlb (by simp only[List.length_map,List.length_append];omega)
  refine ⟨[.d (zai m),.d (zai S)],.own (zad (S.take 1++m++lasL S)),[.d (zai m),.d (zai S)],_,[.d (zai m),.d (zai S)],rfl,zal (zal (zdv (q1:=true) (q2:=true) rfl rfl (ze9 09) rfl rfl s1) rfl rfl rfl rfl a1) (zdv (zdv (q1:=true) rfl (ze9 09) rfl rfl rfl s2) (ze9 09) rfl rfl rfl s3) rfl rfl rfl a2, ?_,rfl⟩
  show some (zad _,_)=some (putO S (.d (zai m)),_)
  rw[zkp])
 have em:(((zc0 6 (midL S)).map zai).map O.d).map (putO S)=(ordB S).map zad:=by
  unfold ordB;rw[List.map_map,List.map_map,List.map_map];exact List.map_congr_left fun m _=>zkp S m
 rw[em] at e;generalize (ordB S).map zad=Y at *;exact zaY rfl (zaL e rfl) rfl
end F45
namespace F45
open F30 (cel)
open F42 (sumO legs)
theorem ziw:∀{xs ys zs:List Int},ltL xs ys=true->ltL ys zs=true->ltL xs zs=true
 | [],ys,[],h,g=>by cases ys<;>simp[ltL] at h g
 | [],ys,_::_,h,g=>by simp[ltL]
 | x::xs,[],zs,h,g=>by simp[ltL] at h
 | x::xs,y::ys,[],h,g=>by simp[ltL] at g
 | x::xs,y::ys,z::zs,h,g=>by
  unfold ltL at h g ⊢
  by_cases a:x=y
  .rw[if_pos a] at h
   by_cases b:y=z
   .rw[if_pos b] at g;rw[if_pos (a.trans b)];exact ziw h g
   .rw[if_neg b] at g;rw[if_neg (fun c=>b (a.symm.trans c)),a];exact g
  .rw[if_neg a] at h;have h:=of_decide_eq_true h
   by_cases b:y=z
   .rw[if_neg (fun c=>a (c.trans b.symm)),<-b];exact decide_eq_true h
   .rw[if_neg b] at g;have g:=of_decide_eq_true g;rw[if_neg ∅];exact decide_eq_true ∅
def ltQ (p q:Int×List Int):Bool:=ltP p.1 p.2 q.1 q.2
theorem zkg (p:Int×List Int):ltQ p p=false:=by unfold ltQ ltP;rw[if_pos rfl,zhK]
theorem zla {p q r:Int×List Int} (h:ltQ p q=true) (g:ltQ q r=true):ltQ p r=true:=by
 unfold ltQ ltP at *
 by_cases a:p.1=q.1
 .rw[if_pos a] at h
  by_cases b:q.1=r.1
  .rw[if_pos b] at g;rw[if_pos (a.trans b)];exact ziw h g
  .rw[if_neg b] at g;rw[if_neg (fun c=>b (a.symm.trans c)),a];exact g
 .rw[if_neg a] at h;have h:=of_decide_eq_true h
  by_cases b:q.1=r.1
  .rw[if_neg (fun c=>a (c.trans b.symm)),<-b];exact decide_eq_true h
  .rw[if_neg b] at g;have g:=of_decide_eq_true g;rw[if_neg ∅];exact decide_eq_true ∅
theorem zqx {p q:Int×List Int} (h:ltQ q p=false):p.1<=q.1:=by
 unfold ltQ ltP at h
 by_cases a:q.1=p.1
 .omega
 .rw[if_neg a] at h
  have:=of_decide_eq_false h
  omega
theorem zny {ps:List 0013} {i j:Nat} {p q:Int×List Int} (h1:ps[i]? = some p) (h2:ps[j]? = some q):zdS ps i j=ltQ p q:=by
 unfold zdS;rw[h1,h2];rfl
theorem zhO (ps:List 0013):∀k,k < ps.length->argBest (zdS ps) k<=k/\∀p,ps[argBest (zdS ps) k]? = some p->∀j q,j<=k->ps[j]? = some q->ltQ q p=false
 | 0,_=>⟨Nat.le_refl _,fun p hp j q hj hq=>by
  have:j=0:=by omega
  subst this;have hp:ps[0]? = some p:=hp;rw[hp] at hq;cases hq;exact zkg p⟩
 | k+1,hk=>by
  obtain ⟨a,b⟩:=zhO ps k ∅;have e:argBest (zdS ps) (k+1)=if zdS ps (k+1) (argBest (zdS ps) k)=true then k+1 else argBest (zdS ps) k:=rfl
  have h1:=List.getElem?_eq_getElem hk;have h2:=List.getElem?_eq_getElem (l:=ps) (i:=argBest (zdS ps) k) ∅;have ah:zdS ps (k+1) (argBest (zdS ps) k)=ltQ ps[k+1] (ps[argBest (zdS ps) k]'∅):=zny h1 h2;rw[ah] at e
  cases z:ltQ ps[k+1] (ps[argBest (zdS ps) k]'∅) with
  | true=>
   rw[z,if_pos rfl] at e;rw[e];refine ⟨Nat.le_refl _,fun p hp j q hj hq=>?_⟩;rw[h1] at hp;cases hp;rcases Nat.lt_or_ge j (k+1) with hj' | hj'
   .have c:=b _ h2 j q ∅ hq
    cases y:ltQ q ps[k+1] with
    | false=>rfl
    | true=>
     have:=zla y z
     rw[c] at this;cases this
   .have:j=k+1:=by omega
    subst this;rw[h1] at hq;cases hq;exact zkg _
  | false=>
   rw[z,if_neg Bool.false_ne_true] at e;rw[e];refine ⟨by omega,fun p hp j q hj hq=>?_⟩;rcases Nat.lt_or_ge j (k+1) with hj' | hj'
   .exact b p hp j q ∅ hq
   .have:j=k+1:=by omega
    subst this;rw[h1] at hq;cases hq;rw[h2] at hp;cases hp;exact z
def zes (ps:List 0013):Option 0013:=if ps=[] then none else ps[argBest (zdS ps) (ps.length - 1)]?
theorem best_none {ps:List 0013}:zes ps=none↔ps=[]:=by
 unfold zes
 by_cases h:ps=[]
 .rw[if_pos h];exact ⟨fun _=>h,fun _=>rfl⟩
 .rw[if_neg h];have hz:0 < ps.length:=List.length_pos_iff.mpr h
  have:=(zhO ps (ps.length - 1) ∅).1
  rw[List.getElem?_eq_getElem ∅];exact ⟨fun z=>(by cases z),fun z=>absurd z h⟩
theorem zmG {ps:List 0013} {p:Int×List Int} (h:zes ps=some p):p∈ps/\∀q∈ps,ltQ q p=false:=by
 unfold zes at h
 by_cases e:ps=[]
 .rw[if_pos e] at h;cases h
 .rw[if_neg e] at h;have hz:0 < ps.length:=List.length_pos_iff.mpr e;obtain ⟨a,b⟩:=zhO ps (ps.length - 1) ∅;refine ⟨List.mem_of_getElem? h,fun q hq=>?_⟩;obtain ⟨j,hj,rfl⟩:=List.mem_iff_getElem.mp hq;exact b p h j _ ∅ (List.getElem?_eq_getElem hj)
def cand (n:Int) (rs:List Road) (S:List Int):List 0013:=(ordB S).filterMap fun o=>(sumO (legs n rs o)).map fun L=>(L,o)
theorem mem_cand {n:Int} {rs:List Road} {S o:List Int} {L:Int}:(L,o)∈cand n rs S↔o∈ordB S/\sumO (legs n rs o)=some L:=by
 unfold cand;rw[List.mem_filterMap];constructor
 .rintro ⟨o',h,e⟩
  obtain ⟨L',e1,e2⟩:=Option.map_eq_some_iff.mp e;cases e2;exact ⟨h,e1⟩
 .rintro ⟨h,e⟩
  exact ⟨o,h,by rw[e];rfl⟩
def zkQ:Option 0013->PyData
 | none=>.none
 | some p=>.tuple [.int p.1,zai p.2]
def zfP (p:Int×List Int):PyData:=.tuple [.int p.1,zai p.2]
theorem zky:∀ps:List 0013,zdT (ps.map zfP)=some ps
 | []=>rfl
 | p::ps=>by
  have e:ziM (zfP p)=some p:=by
   show (dIs (p.2.map PyData.int)).map (fun xs=>(p.1,xs))=some p
   rw[zgO];rfl
  rw[List.map_cons,zdT,e,zky ps]
theorem zry (ps:List 0013):zis (.l ((ps.map zfP).map O.d))=some (.d (zkQ (zes ps))):=by
 unfold zis
 show (match lds ((ps.map zfP).map O.d) with | some ds=>(match zdT ds with | some ps=>if ds=[] then some (O.d .none) else (ds[argBest (zdS ps) (ds.length - 1)]?).map O.d | none=>none) | none=>none)=_
 rw[zd9];dsimp only;rw[zky];dsimp only;unfold zes
 by_cases h:ps=[]
 .subst h;rfl
 .rw[if_neg h,if_neg (by simpa using h),List.length_map,List.getElem?_map];have hz:0 < ps.length:=List.length_pos_iff.mpr h
  have:=(zhO ps (ps.length - 1) ∅).1
  rw[List.getElem?_eq_getElem ∅];rfl
def tupD (n:Int) (rs:List Road) (o:List Int):PyData:=.tuple [oD (sumO (legs n rs o)),zai o]
def ziA:PyData->List Int
 | .list ds=>(dIs ds).getD []
 | _=>[]
theorem zgp (o:List Int):ziA (zai o)=o:=by
 show (dIs (o.map PyData.int)).getD []=o
 rw[zgO];rfl
theorem zjS (a:Option Int):fIs true (.d (oD a)) 042=some (.d (.bool (decide (a≠none)))):=by
 cases a<;>simp[fIs,oD]
def hasO:O->Bool
 | .d (.tuple (.int _::_))=>true
 | _=>false
theorem zmV (n:Int) (rs:List Road) (o:List Int):hasO (.d (tupD n rs o))=decide (sumO (legs n rs o)≠none):=by
 unfold tupD
 cases sumO (legs n rs o)<;>simp[oD,hasO]
theorem ziV (n:Int) (rs:List Road):∀L:List (List Int),((L.map (tupD n rs)).map O.d).filter hasO=((L.filterMap fun o=>(sumO (legs n rs o)).map fun d=>(d,o)).map zfP).map O.d
 | []=>rfl
 | o::L=>by
  have h:=zmV n rs o;rw[List.map_cons,List.map_cons,List.filter_cons,h,ziV n rs L,List.filterMap_cons];unfold tupD
  cases e:sumO (legs n rs o) with
  | none=>simp
  | some d=>simp[zfP,oD]
variable {n:Int} {rs:List Road} {S:List Int}
theorem znB (n0:0<=n) (hS:∀s∈S,0<=s/\s < n) (h1:1<=S.length) (h7:S.length<=7) {w0 w3:O} :
  ∃q,eLS (srcM false 001 (zah [false] za5 047)) [none,some 2] (gtN 0) 055 zbH [w0,.d (zai S),.d 078,w3]=.ok (.own (.l (((ordB S).map (tupD n rs)).map O.d))) [w0,.d (zai S),.d 078,w3] q:=by
 have bt:=zk1 h1 h7;have fo:fz (.l ((ordB S).map zad))=some (.list ((ordB S).map zai)):=by rw[fz,zhn];rfl
 have sr:srcM false 001 (zah [false] za5 047) [w0,.d (zai S),.d 078,w3]=.ok ((((ordB S).map zai).map O.d,none),true) [w0,.d (zai S),.d 078,w3] false:=by
  generalize (ordB S).map zad=Y at *;generalize zai S=I at *;generalize tabD 03=Td at *;exact F42.zl5 (zaI 009 rfl bt rfl rfl) fo
 have l120:=zkd h7;obtain ⟨q,e⟩:=F42.zk5 (js:=[none,some 2]) (G:=gtN 0) (A:=zbH) (fun x=>match x with | .d D=>.d (.tuple [oD (sumO (legs n rs (ziA D))),D]) | o=>o) sr (by simp;omega) (fun x hx=>by
  rw[List.map_map] at hx;obtain ⟨o,ho,rfl⟩:=List.mem_map.mp hx;have po:=zjx ho;have lo:o.length=S.length:=po.length_eq;have lg:=F42.zl4 (rs:=rs) n0 (fun s hs=>hS s (po.mem_iff.mp hs)) ∅ (by omega:o.length<=1000);have sc:=F30.zfB (sumO (legs n rs o));have e1:ziA (zai o)=o:=zgp o
  show ∃ρ1 r ρ3 q3 ρ4,gtN 0 (.d (zai o)) (zdp [none,some 2] [w0,.d (zai S),.d 078,w3])=some ρ1/\zbH ρ1=.ok r ρ3 q3/\coe ρ3 r=some (O.d (.tuple [oD (sumO (legs n rs (ziA (zai o)))),zai o]),ρ4)/\zcb [none,some 2] ρ4 (clrR [none,some 2] [w0,.d (zai S),.d 078,w3])=[w0,.d (zai S),.d 078,w3]
  rw[e1];generalize oD (sumO (legs n rs o))=Z at *;generalize zai o=I at *;generalize zai S=J at *;generalize tabD 03=Td at *;exact ⟨[.d I,.d Td],_,_,_,[.d I,.d Td],rfl,zaw (zab (zaN 00 rfl lg (by simp[sc])) 009 rfl) rfl 079 rfl,rfl,rfl⟩)
 refine ⟨q,e.trans ?_⟩;have em:∀f:O->O,(∀o:List Int,f (.d (zai o))=.d (tupD n rs o))->(((ordB S).map zai).map O.d).map f=((ordB S).map (tupD n rs)).map O.d:=fun f hf=>by
  rw[List.map_map,List.map_map,List.map_map];exact List.map_congr_left fun o _=>hf o
 rw[em _ fun o=>by
  show O.d (.tuple [oD (sumO (legs n rs (ziA (zai o)))),zai o])=_
  rw[zgp]
  rfl]
theorem zmY {w0 w1 w2:O} {L:List (List Int)} (hl:L.length<=1000):∃q,eLS (srcM true 001 (zaa 3)) [none,none] (gtT 024) zbG zbF [w0,w1,w2,.l ((L.map (tupD n rs)).map O.d)]=.ok (.own (.l (((L.filterMap fun o=>(sumO (legs n rs o)).map fun d=>(d,o)).map zfP).map O.d))) [w0,w1,w2,.l ((L.map (tupD n rs)).map O.d)] q:=by
 have sr:srcM true 001 (zaa 3) [w0,w1,w2,.l ((L.map (tupD n rs)).map O.d)]=.ok (((L.map (tupD n rs)).map O.d,some (3,.l ((L.map (tupD n rs)).map O.d))),true) [w0,w1,w2,.z] true:=by
  have ld:=zd9 (L.map (tupD n rs));generalize L.map (tupD n rs)=Y at *
  have:zeH [w0,w1,w2,.l (Y.map O.d)] (.at 3 [])=some (Y,true,3,.l (Y.map O.d)):=by
   show (match lds (Y.map O.d) with | some ds=>some (ds,true,3,O.l (Y.map O.d)) | none=>none)=_
   rw[ld]
  unfold srcM
  show (match zeH [w0,w1,w2,.l (Y.map O.d)] (.at 3 []) with | some (ds,k,i,oi)=>Re.ok ((ds.map O.d,some (i,oi)),k) ([w0,w1,w2,.l (Y.map O.d)].set i .z) true | none=>_)=_
  rw[this];rfl
 obtain ⟨q,e⟩:=zds (js:=[none,none]) (G:=gtT 024) (T:=zbG) (A:=zbF) (ρ:=[w0,w1,w2,.z]) hasO id (items:=(L.map (tupD n rs)).map O.d) (acc:=[]) (q:=true) (fun x hx=>by
  rw[List.map_map] at hx;obtain ⟨o,ho,rfl⟩:=List.mem_map.mp hx;have nn:=zjS (sumO (legs n rs o));have hh:=zmV n rs o
  show ∃ρ1 ρ2 q2,gtT 024 (.d (tupD n rs o)) (zdp [none,none] [w0,w1,w2,.z])=some ρ1/\zbG ρ1=.ok (hasO (.d (tupD n rs o))) ρ2 q2/\(hasO (.d (tupD n rs o))=true->∃r ρ3 q3 ρ4,zbF ρ2=.ok r ρ3 q3/\coe ρ3 r=some (O.d (tupD n rs o),ρ4)/\zcb [none,none] ρ4 (clrR [none,none] [w0,w1,w2,.z])=[w0,w1,w2,.z])/\(hasO (.d (tupD n rs o))=false->zcb [none,none] ρ2 (clrR [none,none] [w0,w1,w2,.z])=[w0,w1,w2,.z])
  rw[hh];unfold tupD;generalize decide (sumO (legs n rs o)≠none)=b at *;generalize oD (sumO (legs n rs o))=Z at *;generalize zai o=I at *;refine ⟨[.d Z,.d I],[.d Z,.d I],true,rfl,zaq (q:=true) (zal (q1:=true) (q2:=true) rfl rfl rfl rfl rfl nn) rfl,fun _=>⟨_,_,_,[.d Z,.d I],zaw 00 rfl 079 rfl,rfl,rfl⟩,fun _=>rfl⟩)
 rw[List.map_id,List.nil_append,ziV] at e;have ln:(1000:Nat)<=sizeLine:=by decide
 exact ⟨_,F24.zkj sr (by simp only[List.length_map];omega) e rfl⟩
theorem ziW (ok:zay n rs) (T:Taut rs) (hS:∀s∈S,0<=s/\s < n) (h1:1<=S.length) (h7:S.length<=7) {w:O} (hw:w=.d (zai S)\/w=zad S) :
  zbj [.d 02,w]=.ok (.d (zkQ (zes (cand n rs S)))) []:=by
 have tf:=F43.zfR ok T hS h1 h7;have ft:=zjZ 03;obtain ⟨q1,e1⟩:=znB (rs:=rs) (w0:=.d 02) (w3:=.z) ok.n0 hS h1 h7;have l120:=zkd h7;obtain ⟨q2,e2⟩:=zmY (n:=n) (rs:=rs) (w0:=.d 02) (w1:=.d (zai S)) (w2:=.d 078) (L:=ordB S) ∅;have mn:=zry (cand n rs S);unfold cand at mn ⊢;have fS:=zbK S;have ps:∃ρs,ρs=[.d 02,.d (zai S),.z,.z]/\pass 06 [.at 0 [],.at 1 []] [.d 02,w,.z,.z]=some ([.d 02,.d (zai S)],[],ρs):=by
  generalize netD n rs=N;rcases hw with rfl | rfl
  .exact ⟨_,rfl,rfl⟩
  .exact ⟨_,rfl,zd4 rfl (zd4 (zgX rfl fS) rfl)⟩
 obtain ⟨ρs,rfl,ps⟩:=ps;have n1:zaa 1 [.d 02,w,.z,.z]=.ok (.at 1 []) [.d 02,w,.z,.z] true:=by
  rcases hw with rfl | rfl<;>rfl
 generalize ((ordB S).filterMap fun o=>(sumO (legs n rs o)).map fun d=>(d,o))=ps0 at *;generalize ((ordB S).map (tupD n rs)).map O.d=F0 at *;generalize (ps0.map zfP).map O.d=P0 at *;generalize zkQ (zes ps0)=B at *;unfold tabO at *;generalize netD n rs=N at *;generalize zai S=I at *;generalize tabD 03=Td at *;exact zaY (n:=4) rfl (L2.zag (zap (zcI (zaI (zab rfl (zab n1 rfl rfl) rfl) ps tf rfl rfl) ft) rfl rfl) (L2.zag (zap e1 rfl rfl) (zaL (zpN e2 rfl mn) rfl))) rfl
theorem zhP (ok:zay n rs) (T:Taut rs) (hS:∀s∈S,0<=s/\s < n) (h1:1<=S.length) (h7:S.length<=7) {w:O} (hw:w=.d (zai S)\/w=zad S) :
  ∃o,zbj [.d 02,w]=.ok o []/\fz o=some (zkQ (zes (cand n rs S))):=⟨_,ziW ok T hS h1 h7 hw,fz_d _⟩
end F45
namespace F45
open F30 (cel detL zav zaQ zaW detE detD detO)
open F29 (zaO up)
open F32 (IsO zbC onO lO zbf zbO)
open F34 (zdm zfF)
open F42 (sumO legs zb1)
def minO (cs:List 08):Option Int:=zd2 0012
theorem zlq (cs:List 08):IsO (fun L=>some L∈cs) (minO cs):=by
 have mem:∀L,L∈cs.filterMap id↔some L∈cs:=fun L=>by
  rw[List.mem_filterMap];exact ⟨fun ⟨a,h,e⟩=>(by have e:a=some L:=e;rw[<-e];exact h),fun h=>⟨_,h,rfl⟩⟩
 unfold minO
 cases e:zd2 0012 with
 | none=>
  intro L h;have hm:=(mem L).mpr h
  cases z:cs.filterMap id with
  | nil=>rw[z] at hm;cases hm
  | cons a as=>
   rw[z,zd2] at e;split at e<;>cases e
 | some d=>
  obtain ⟨a,b⟩:=zgP e;exact ⟨(mem d).mp a,fun L h=>b L ((mem L).mpr h)⟩
theorem znC (a b:Option Int):minO [a,b]=lO a b:=by
 cases a with
 | none=>cases b<;>rfl
 | some d=>
  cases b with
  | none=>rfl
  | some e=>
   show some (if d < e then d else e)=(if e < d then some e else some d)
   by_cases h:e < d
   .rw[if_pos h,if_neg ∅]
   .rw[if_neg h]
    by_cases g:d < e
    .rw[if_pos g]
    .rw[if_neg g,show e=d by omega]
theorem zq0 (L:List Int):fEq false (zad L) (.l [])=some (.d (.bool (decide (L=[])))):=by
 have s1:=zdX L;have s2:SeqAt.shaped (.list [])=true:=by decide +kernel
 have f:=zbK L;unfold fEq;rw[f]
 show (if (SeqAt.shaped _&&SeqAt.shaped (.list []))=true then some (O.d (.bool (PyData.eqv (.list (L.map PyData.int)) (.list [])))) else none)=_
 rw[s1,s2,zpE]
 show some _=some _
 cases L<;>simp
def isI:O->Bool
 | ⇑_=>true
 | _=>false
theorem zuQ (cs:List 08):((cs.map optD).map O.d).filter isI=(cs.filterMap id).map fun h=>O.d (.int h):=by
 induction cs with
 | nil=>rfl
 | cons c cs ih=>
  rw[List.map_cons,List.map_cons,List.filter_cons,ih,List.filterMap_cons]
  cases c with
  | none=>rfl
  | some d=>rfl
theorem zib {cs:List 08} {ρ ρ1 ρ2:Rho} {rst:Option (Nat×O)} {q1:Bool} (hl:cs.length<=1000) (sr:srcM true 001 (zaa 0) ρ=.ok (((cs.map optD).map O.d,rst),true) ρ1 q1) (hr:ziK rst ρ1=ρ2) (h1:zcb [none] [] (clrR [none] ρ1)=ρ1/\∀x:O,zcb [none] [x] (clrR [none] ρ1)=ρ1) (pk:zdp [none] ρ1=[.z]) :
  ∃q,eLS (srcM true 001 (zaa 0)) [none] (gtN 0) zbl zbM ρ=.ok (.own (zad 0012)) ρ2 q:=by
 obtain ⟨q,e⟩:=zds (js:=[none]) (G:=gtN 0) (T:=zbl) (A:=zbM) (ρ:=ρ1) isI (fun o=>o) (items:=(cs.map optD).map O.d) (acc:=[]) (q:=true) (fun x hx=>by
  rw[List.map_map] at hx;obtain ⟨c,hc,rfl⟩:=List.mem_map.mp hx;have nn:=zjS c;rw[zh8] at nn;rw[pk];refine ⟨[.d (optD c)],[.d (optD c)],true,rfl, ?_,fun _=>⟨.at 0 [],[.d (optD c)],true,[.d (optD c)], ?_, ?_,h1.2 _⟩,fun _=>h1.2 _⟩
  .have:isI (.d (optD c))=decide (c≠none):=by cases c<;>simp[isI,optD]
   show zbl _=.ok (isI (.d (optD c))) _ _
   rw[this];exact zaq (q:=true) (zal (q1:=true) (q2:=true) rfl rfl rfl rfl rfl nn) rfl
  .rfl
  .rfl)
 rw[List.map_id',List.nil_append,zuQ] at e;have ln:(1000:Nat)<=sizeLine:=by decide
 exact ⟨_,F24.zkj sr (by simp only[List.length_map];omega) e hr⟩
theorem zh3 {cs:List 08} (hl:cs.length<=1000) {w:O} (hw:w=rowO cs\/w=.d (rowD cs)):za1 [w]=.ok (.d (oD (minO cs))) []:=by
 have lc:∃w' q,eLS (srcM true 001 (zaa 0)) [none] (gtN 0) zbl zbM [w]=.ok (.own (zad 0012)) [w'] q:=by
  rcases hw with rfl | rfl
  .have e:rowO cs=.l ((cs.map optD).map O.d):=by
    unfold rowO;rw[List.map_map]
    congr 1
    exact List.map_congr_left fun c _=>by cases c<;>rfl
   rw[e];have sr:srcM true 001 (zaa 0) [.l ((cs.map optD).map O.d)]=.ok (((cs.map optD).map O.d,some (0,.l ((cs.map optD).map O.d))),true) [.z] true:=by
    have ld:=zd9 (cs.map optD);generalize cs.map optD=Y at *
    have:zeH [.l (Y.map O.d)] (.at 0 [])=some (Y,true,0,.l (Y.map O.d)):=by
     show (match lds (Y.map O.d) with | some ds=>some (ds,true,0,O.l (Y.map O.d)) | none=>none)=_
     rw[ld]
    unfold srcM
    show (match zeH [O.l (Y.map O.d)] (.at 0 []) with | some (ds,k,i,oi)=>Re.ok ((ds.map O.d,some (i,oi)),k) ([O.l (Y.map O.d)].set i O.z) true | none=>_)=_
    rw[this];rfl
   obtain ⟨q,e⟩:=zib hl sr rfl ⟨rfl,fun _=>rfl⟩ rfl;exact ⟨_,q,e⟩
  .obtain ⟨q,e⟩:=zib (ρ2:=[.d (rowD cs)]) hl (F24.zoj rfl) rfl ⟨rfl,fun _=>rfl⟩ rfl;exact ⟨_,q,e⟩
 obtain ⟨w',q,e⟩:=lc;have ne:=zq0 0012;have fm:f1 fMin [zad 0012]=(minO cs).map fun m=>⇑m:=by
  have fz:=zbK 0012
  show fMin (zad 0012)=_
  unfold fMin zsOf;rw[fz]
  show (match dIs ((cs.filterMap id).map PyData.int) with | some ns=>(zd2 ns).map (fun m=>O.d (.int m)) | none=>none)=_
  rw[zgO];rfl
 by_cases z:cs.filterMap id=[]
 .have:minO cs=none:=by unfold minO;rw[z];rfl
  rw[this];rw[decide_eq_true z] at ne;unfold zad at *;generalize (cs.filterMap id).map 0023=X at *;exact zaY (n:=1) rfl (L2.zag (zap e rfl rfl) (L2.zdQ (if_t (zaq (zal rfl 040 rfl rfl rfl ne) rfl) (zaL rfl rfl)))) rfl
 .rw[decide_eq_false z] at ne;have is:=zlq cs
  cases m:minO cs with
  | none=>
   rw[m] at is;obtain ⟨L,hL⟩:∃L,L∈cs.filterMap id:=by
    cases y:cs.filterMap id with
    | nil=>exact absurd y z
    | cons a as=>exact ⟨a,List.mem_cons_self⟩
   obtain ⟨a,h,e⟩:=List.mem_filterMap.mp hL;have e:a=some L:=e;rw[e] at h;exact absurd h (is L)
  | some d=>
   rw[m] at fm;unfold zad at *;generalize (cs.filterMap id).map 0023=X at *;exact zaY (n:=1) rfl (L2.zag (zap e rfl rfl) (L2.zag (if_f (zaq (zal rfl 040 rfl rfl rfl ne) rfl) rfl) (zaL (zgT 009 rfl fm) rfl))) rfl
end F45
namespace F45
open F30 (cel detL zav zaQ zaW detE detD detO)
open F29 (zaO up)
open F32 (IsO zbC onO lO zbf zbO zep)
open F34 (zdm zfF)
open F42 (sumO legs zb1)
variable {n p q:Int} {rs:List Road}
def tP (n:Int) (rs:List Road) (p q:Int) (i:Nat):Bool:=match rs[i]? with
 | some r=>decide (cel n rs p q≠none/\onO n rs p q r≠none/\onO n rs p q r=cel n rs p q)
 | none=>false
def wP (n:Int) (rs:List Road) (p q:Int) (i:Nat):Bool:=decide (cel n rs p q≠none/\cel n (zaO rs i) p q≠cel n rs p q)
theorem zhf:zav n rs p q=((List.range rs.length).filter (tP n rs p q)).map fun i:Nat=>(i:Int):=by
 unfold F30.zav F30.zaQ
 by_cases h:cel n rs p q=none
 .rw[if_pos h]
  have:(List.range rs.length).filter (tP n rs p q)=[]:=List.filter_eq_nil_iff.mpr fun i _=>by
   unfold tP;split
   .simp[h]
   .simp
  rw[this];rfl
 .rw[if_neg h]
  have:(List.range rs.length).filter (zaW n rs p q)=(List.range rs.length).filter (tP n rs p q):=List.filter_congr fun i hi=>by
   unfold F30.zaW tP
   cases e:rs[i]? with
   | none=>rfl
   | some r=>
    show decide (onO n rs p q r=cel n rs p q)=_
    apply decide_eq_decide.mpr;constructor
    .intro z;exact ⟨h,fun y=>h (z.symm.trans y),z⟩
    .intro z;exact z.2.2
  rw[this]
theorem zmn {A B:Type} (w:A->Bool) (g:A->B):∀l:List A,(l.flatMap fun i=>if w i=true then [g i] else [])=(l.filter w).map g
 | []=>rfl
 | a::l=>by
  rw[List.flatMap_cons,zmn w g l,List.filter_cons]
  by_cases h:w a=true
  .rw[if_pos h,if_pos h];rfl
  .rw[if_neg h,if_neg h];rfl
theorem zoX {i:Nat} {r:Road} {s a:Int} (ok:zay n rs) (T:Taut rs) (hp:0<=p/\p < n) (hq:0<=q/\q < n) (hs:cel n rs p q=some s) (ha:cel n (zaO rs i) p q=some a):s<=a:=by
 have c1:=zbC ok T hp hq;have c2:=zbC (F29.zfc ok i) (F29.zdN T i) hp hq;rw[hs] at c1;rw[ha] at c2;exact c1.2 a (c2.1.sub fun r h=>F29.ze5 h)
theorem w_t {i:Nat} (ok:zay n rs) (T:Taut rs) (hp:0<=p/\p < n) (hq:0<=q/\q < n) (hi:i < rs.length) (h:wP n rs p q i=true):tP n rs p q i=true:=by
 unfold wP at h;obtain ⟨h1,h2⟩:=of_decide_eq_true h;have hr:zaH rs (i:Int)=some rs[i]:=by
  unfold zaH;rw[if_pos ⟨by omega,by omega⟩,Int.toNat_natCast,List.getElem?_eq_getElem hi]
 have me:=zep ok T hp hq hr;rw[Int.toNat_natCast] at me;unfold tP;rw[List.getElem?_eq_getElem hi];have key:onO n rs p q rs[i]=cel n rs p q:=by
  unfold F32.lO at me
  cases a:onO n rs p q rs[i] with
  | none=>
   rw[a] at me;exact absurd me.symm h2
  | some d=>
   cases b:cel n (zaO rs i) p q with
   | none=>rw[a,b] at me;exact me.symm
   | some e=>
    rw[a,b] at me;dsimp only at me
    by_cases c:e < d
    .rw[if_pos c] at me;exact absurd (b.trans me.symm) h2
    .rw[if_neg c] at me;exact me.symm
 exact decide_eq_true ⟨h1,fun z=>h1 (key.symm.trans z),key⟩
theorem zlK (ok:zay n rs) (T:Taut rs) (hp:0<=p/\p < n) (hq:0<=q/\q < n):(detL n rs p q).map Prod.fst=((List.range rs.length).filter (wP n rs p q)).map fun i:Nat=>(i:Int):=by
 unfold F30.detL
 cases h:cel n rs p q with
 | none=>
  have:(List.range rs.length).filter (wP n rs p q)=[]:=List.filter_eq_nil_iff.mpr fun i _=>by
   unfold wP;simp[h]
  rw[this];rfl
 | some s=>
  show ((zav n rs p q).flatMap (detE n rs p q s)).map Prod.fst=_
  rw[zhf,List.flatMap_map,List.map_flatMap];have e:∀i∈(List.range rs.length).filter (tP n rs p q),(detE n rs p q s (i:Int)).map Prod.fst=if wP n rs p q i=true then [((i:Nat):Int)] else []:=fun i hi=>by
   have hi':=List.mem_range.mp (List.mem_filter.mp hi).1;unfold F30.detE wP;rw[Int.toNat_natCast]
   cases a:cel n (zaO rs i) p q with
   | none=>simp[h]
   | some a'=>
    have ge:=zoX (r:=rs[i]) ok T hp hq h a;dsimp only
    by_cases z:s < a'
    .rw[if_pos z,if_pos (decide_eq_true ⟨by simp[h],by rw[h];intro y;cases y;omega⟩)];rfl
    .have:a'=s:=by omega
     rw[if_neg z,if_neg (by simp[h,this])];rfl
  have f:((List.range rs.length).filter (tP n rs p q)).flatMap (fun i:Nat=>(detE n rs p q s (i:Int)).map Prod.fst)=((List.range rs.length).filter (tP n rs p q)).flatMap fun i:Nat=>if wP n rs p q i=true then [((i:Nat):Int)] else []:=by
   rw[List.flatMap_def,List.flatMap_def,List.map_congr_left e]
  rw[f,zmn,List.filter_filter]
  congr 1
  exact List.filter_congr fun i hi=>by
   have hi:=List.mem_range.mp hi
   cases z:wP n rs p q i with
   | false=>simp
   | true=>simp[w_t ok T hp hq hi z]
theorem zqb {W:List Int} (ok:zay n rs) (hp:0<=p/\p < n) (hq:0<=q/\q < n) (ld:zaR rs p q W=true):zbI [.d 02,⇑p,⇑q,.d (zai W)]=.ok 037 []:=by
 have c:=za2 ok hp hq;have l:=zki (n:=n) ld;generalize netD n rs=N at *;generalize zai W=X at *;exact zaY rfl (L2.zag (za6 (zaN 008 rfl c rfl)) (zaL (zaN 061 rfl l rfl) rfl)) rfl
def ByD (rs:List Road) (p q:Int) (on:Option Int) (D:PyData):Prop:=(on=none/\D=.none)\/∃L W,on=some L/\D=.tuple [.int L,zai W]/\zaR rs p q W=true
theorem by_D {k:Int} {r:Road} (ok:zay n rs) (T:Taut rs) (hp:0<=p/\p < n) (hq:0<=q/\q < n) (hr:zaH rs k=some r):∃o D,zcC [.d 02,⇑p,⇑q,⇑k]=.ok o []/\fz o=some D/\ByD rs p q (onO n rs p q r) D:=by
 obtain ⟨r1,r2,_⟩:=ok.rd r (zbp hr);rcases zum ok T hp hq hr with ⟨no,e⟩ | ⟨W,a,b,da,db,bw,e⟩
 .refine ⟨_,_,e,fz_d _,.inl ⟨?_,rfl⟩⟩;unfold F32.onO;rcases no with h | h
  .rw[zbO ok T hp r1 h];rfl
  .rw[zbO ok T r2 hq h];cases cel n rs p r.1<;>rfl
 .refine ⟨_,.tuple [.int (a+r.2.2+b),zai W],e, ?_,.inr ⟨_,W, ?_,rfl,bw.ld⟩⟩
  .have f1:=zbK W;simp[fz,fzs,f1,zai]
  .unfold F32.onO;rw[zbf ok T hp r1 da,zbf ok T r2 hq db];rfl
theorem zoc {on:Option Int} {D:PyData} (h:ByD rs p q on D):zaX [.d D]=.ok (.d (oD on)) []:=by
 rcases h with ⟨rfl,rfl⟩ | ⟨L,W,rfl,rfl,_⟩
 .exact F42.zm1
 .exact F42.zl3
end F45
namespace F45
open F30 (cel detL zav zaQ zaW detE detD detO)
open F29 (zaO up)
open F32 (IsO zbC onO lO zbf zbO zep)
open F34 (zdm zfF)
open F42 (sumO legs zb1)
section
variable {N D7 Dw:PyData} {p q i:Int} {due on off:Option Int} {Th Wa:List O} {ob ow z7 z8 z9:O} {rs:List Road}
theorem zi5 {ρ:Rho} {k:Nat} {D:PyData} {b:Bool} (h:ρ[k]? = some (.d D)) (hf:fIs true (.d D) 042=some 085):tst (e2 (zaa k) 013 (fIs true)) ρ=.ok b ρ true:=
 zaq (q:=true) (zal (q1:=true) (q2:=true) (x:=.d D) (y:=.d .none) (F24.zen h) rfl rfl (by simp[vn,vw,h,sub]) rfl hf) rfl
theorem zqP (hb:ByD rs p q on D7):fIs true (.d D7) 042=some (.d (.bool (decide (on≠none)))):=by
 rcases hb with ⟨rfl,rfl⟩ | ⟨L,W,rfl,rfl,_⟩
 .simp[fIs]
 .simp[fIs]
theorem zmI {L:Int} {I:PyData} {ρ:Rho} {k:Nat} (h:ρ[k]? = some (.d (.tuple [.int L,I]))):gIx ρ (.at k []) 0=some (.own ⇑L):=by
 rw[zdE,h];rfl
theorem zfi {L:Int} {I:PyData} {ρ:Rho} {k:Nat} (h:ρ[k]? = some (.d (.tuple [.int L,I]))):eIx (zaa k) ↥0 ρ=.ok (.own ⇑L) ρ (true&&true):=
 zbt (F24.zen h) 09 rfl (zmI h)
theorem zup (hb:ByD rs p q on D7) {ρ:Rho} (h3:ρ[3]? = some (.d (oD due))) (h7:ρ[7]? = some (.d D7)):∃qq,039 ρ=.ok (decide (due≠none/\on≠none/\on=due)) ρ qq:=by
 have t3:=zi5 h3 (zjS due);have t7:=zi5 h7 (zqP hb)
 cases due with
 | none=>
  rw[decide_eq_false (by simp)] at t3 ⊢;exact ⟨_,zdm t3⟩
 | some d=>
  rw[decide_eq_true (by simp)] at t3;rcases hb with ⟨rfl,rfl⟩ | ⟨L,W,rfl,rfl,_⟩
  .rw[decide_eq_false (by simp)] at t7 ⊢;exact ⟨_,zek t3 (zdm t7)⟩
  .rw[decide_eq_true (by simp)] at t7;have fe:=F30.zls (some L) (some d);have e:decide (some d≠none/\some L≠none/\some L=some d)=decide (some L=some d):=decide_eq_decide.mpr ⟨fun z=>z.2.2,fun z=>⟨by simp,by simp,z⟩⟩;rw[e];exact ⟨_,zek t3 (zek t7 (zaq (zal (zfi h7) (F24.zen h3) rfl rfl (by simp[vn,vw,h3,sub]) fe) rfl))⟩
theorem zuI {ρ:Rho} (h3:ρ[3]? = some (.d (oD due))) (h8:ρ[8]? = some (.d (oD off))):∃qq,0021 ρ=.ok (decide (due≠none/\off≠due)) ρ qq:=by
 have t3:=zi5 h3 (zjS due);have fe:fEq true (.d (oD off)) (.d (oD due))=some (.d (.bool (decide (off≠due)))):=by
  have ly1:=F42.zim off;have ly2:=F42.zim due;have fe:=F30.zls off due;unfold fEq at fe ⊢;rw[fz_d,fz_d] at fe ⊢;dsimp only at fe ⊢;rw[ly1.shaped,ly2.shaped] at fe ⊢;have fe':(PyData.eqv (oD off) (oD due))=decide (off=due):=by simpa using fe
  show some (O.d (.bool (!PyData.eqv (oD off) (oD due))))=_
  rw[fe']
  by_cases z:off=due<;>simp[z]
 cases due with
 | none=>
  rw[decide_eq_false (by simp)] at t3 ⊢;exact ⟨_,zdm t3⟩
 | some d=>
  rw[decide_eq_true (by simp)] at t3;have e:decide (some d≠none/\off≠some d)=decide (off≠some d):=decide_eq_decide.mpr ⟨fun z=>z.2,fun z=>⟨by simp,z⟩⟩;rw[e];exact ⟨_,zek t3 (zaq (zal (q1:=true) (q2:=true) (F24.zen h8) (F24.zen h3) rfl (by simp[vn,vw,h8,sub]) (by simp[vn,vw,h3,sub]) fe) rfl)⟩
theorem zut (hb:ByD rs p q on D7) (iw:∀W,zaR rs p q W=true->zbI [.d N,⇑p,⇑q,.d (zai W)]=.ok 037 []) {ws:List O} :
  ∃qq,033 ([.d N,⇑p,⇑q,.d (oD due),.l Th,.l Wa,⇑i,.d D7]++ws)=.ok false ([.d N,⇑p,⇑q,.d (oD due),.l Th,.l Wa,⇑i,.d D7]++ws) qq:=by
 have t7:=zi5 (ρ:=[.d N,⇑p,⇑q,.d (oD due),.l Th,.l Wa,⇑i,.d D7]++ws) (k:=7) rfl (zqP hb);rcases hb with ⟨rfl,rfl⟩ | ⟨L,W,rfl,rfl,ld⟩
 .rw[decide_eq_false (by simp)] at t7;exact ⟨_,zdm t7⟩
 .rw[decide_eq_true (by simp)] at t7;have iw:=iw W ld;generalize zai W=X at *;exact ⟨_,zek t7 (zho (zaC (zaN (zab rfl (zab rfl (zab rfl (zab 038 rfl rfl) rfl) rfl) rfl) rfl iw rfl) rfl rfl))⟩
theorem zkz (hb:zcC [.d N,⇑p,⇑q,⇑i]=.ok ob []) (fb:fz ob=some D7) (bd:ByD rs p q on D7) (iw:∀W,zaR rs p q W=true->zbI [.d N,⇑p,⇑q,.d (zai W)]=.ok 037 [])
  (hw:zaS [.d N,⇑p,⇑q,⇑i]=.ok ow []) (fw:fz ow=some Dw) (f2:zan [.d N,⇑p,⇑q,.d Dw]=.ok (.d (oD off)) []) (me:due=lO on off) (l1:Th.length<=100) (l2:Wa.length<=100) :
  zbY [.d N,⇑p,⇑q,.d (oD due),.l Th,.l Wa,⇑i,z7,z8,z9]=.nx [.d N,⇑p,⇑q,.d (oD due),.l 0020,.l (if decide (due≠none/\off≠due)=true then Wa++[⇑i] else Wa),⇑i,.d D7,.d (oD off),z9]:=by
 have ln:(100:Nat) < sizeLine:=by decide
 have b1:(sAsg coe (eFz (zah 01 zcC 032)) (gtN 7)) [.d N,⇑p,⇑q,.d (oD due),.l Th,.l Wa,⇑i,z7,z8,z9]=.nx [.d N,⇑p,⇑q,.d (oD due),.l Th,.l Wa,⇑i,.d D7,z8,z9]:=
  zap (zcI (zb1 061 rfl hb) fb) rfl rfl
 have sc:=F30.zfB off;have b2:(sAsg coe (zah 01 zan (zac (zaa 0) (zac (zaa 1) (zac (zaa 2) (zac (eFz (zah 01 zaS 032)) aNil))))) (gtN 8)) [.d N,⇑p,⇑q,.d (oD due),.l Th,.l Wa,⇑i,.d D7,z8,z9]=.nx 016:=by
  generalize oD off=Z at *;exact zap (zaN (zab rfl (zab rfl (zab rfl (zab (zcI (zb1 061 rfl hw) fw) rfl rfl) rfl) rfl) rfl) rfl f2 (by simp[sc])) rfl rfl
 have le:=zh3 (cs:=[on,off]) (by simp) (.inl rfl);rw[znC,<-me] at le;have le:za1 [.l [.d (oD on),.d (oD off)]]=.ok (.d (oD due)) []:=by
  have e:rowO [on,off]=.l [.d (oD on),.d (oD off)]:=by
   unfold rowO;simp[zgY]
  rwa [e] at le
 have bf:=zoc bd;have sc1:=F30.zfB on;have sc2:=F30.zfB due;have ly:=F42.zim due;have fe:=ze1 (fz_d (oD due)) (fz_d (oD due)) ly.shaped (zdY _ ly.1) true;have b3:(sIf (tst (e2 (zah [false] za1 (zac (zaA coes .l (zac (zah [false] zaX 0001) (zac (zaa 8) aNil))) aNil)) (zaa 3) 0000)) 005 sNil) 016=.nx 016:=by
  generalize oD off=Z at *;generalize oD on=Y at *;generalize oD due=X at *;exact if_f (zaq (zal (zaN (zab (zaw (zab (zaN 009 rfl bf (by simp[sc1])) 009 rfl) rfl 079 rfl) rfl rfl) rfl le (by simp[sc2])) rfl rfl rfl rfl fe) rfl) rfl
 obtain ⟨q4,t4⟩:=zut (N:=N) (due:=due) (Th:=Th) (Wa:=Wa) (i:=i) bd iw (ws:=[.d (oD off),z9]);have b4:(sIf 033 005 sNil) 016=.nx 016:=if_f t4 rfl;obtain ⟨q5,t5⟩:=zup (due:=due) bd (ρ:=016) rfl rfl;have b5:(sIf 039 (zbd (eApp (zaa 4) (zaa 6))) sNil) 016=.nx [.d N,⇑p,⇑q,.d (oD due),.l 0020,.l Wa,⇑i,.d D7,.d (oD off),z9]:=by
  generalize decide (due≠none/\on≠none/\on=due)=b at *
  cases b with
  | true=>exact if_t t5 (za6 (zeK rfl rfl rfl rfl rfl (zcj (xs:=Th) rfl ∅)))
  | false=>exact if_f t5 rfl
 generalize 0020=Th2 at *;obtain ⟨q6,t6⟩:=zuI (due:=due) (off:=off) (ρ:=[.d N,⇑p,⇑q,.d (oD due),.l Th2,.l Wa,⇑i,.d D7,.d (oD off),z9]) rfl rfl;have b6:(sIf 0021 (zbd (eApp (zaa 5) (zaa 6))) sNil) [.d N,⇑p,⇑q,.d (oD due),.l Th2,.l Wa,⇑i,.d D7,.d (oD off),z9]=.nx [.d N,⇑p,⇑q,.d (oD due),.l Th2,.l (if decide (due≠none/\off≠due)=true then Wa++[⇑i] else Wa),⇑i,.d D7,.d (oD off),z9]:=by
  generalize decide (due≠none/\off≠due)=b at *
  cases b with
  | true=>exact if_t t6 (za6 (zeK rfl rfl rfl rfl rfl (zcj (xs:=Wa) rfl ∅)))
  | false=>exact if_f t6 rfl
 exact L2.zag b1 (L2.zag b2 (L2.zag b3 (L2.zag b4 (L2.zag b5 b6))))
end
variable {n p q:Int} {rs:List Road}
theorem zo0 {k:Int} {m:Option Int} (h:(k,m)∈detL n rs p q):∃s,cel n rs p q=some s/\(0<=k/\k < (rs.length:Int))/\((m=none/\cel n 062 p q=none)\/∃a,m=some (a - s)/\cel n 062 p q=some a):=by
 unfold F30.detL at h
 cases e:cel n rs p q with
 | none=>rw[e] at h;cases h
 | some s=>
  rw[e] at h;obtain ⟨k',hk',h⟩:=List.mem_flatMap.mp h;have r:=F30.zhZ hk';unfold F30.detE at h
  cases a:cel n (zaO rs k'.toNat) p q with
  | none=>
   rw[a] at h
   cases List.mem_singleton.mp h
   exact ⟨s,rfl,r,.inl ⟨rfl,a⟩⟩
  | some a'=>
   rw[a] at h;dsimp only at h
   by_cases z:s < a'
   .rw[if_pos z] at h
    cases List.mem_singleton.mp h
    exact ⟨s,rfl,r,.inr ⟨a',rfl,a⟩⟩
   .rw[if_neg z] at h;cases h
theorem zkL {N Dw:PyData} {s k:Int} {m c:Option Int} {ow w4 z7:O} (hw:zaS [.d N,⇑p,⇑q,⇑k]=.ok ow []) (fw:fz ow=some Dw) (f2:zan [.d N,⇑p,⇑q,.d Dw]=.ok (.d (oD c)) []) (h:(m=none/\c=none)\/∃a,m=some (a - s)/\c=some a) :
  zcF [.d N,⇑p,⇑q,⇑s,w4,⇑k,.d (oD m),z7]=.nx [.d N,⇑p,⇑q,⇑s,w4,⇑k,.d (oD m),.d (oD c)]:=by
 have sc:=F30.zfB c;have b1:(sAsg coe (zah 01 zan (zac (zaa 0) (zac (zaa 1) (zac (zaa 2) (zac (eFz (zah 01 zaS (zac (zaa 0) (zac (zaa 1) (zac (zaa 2) (zac (zaa 5) aNil)))))) aNil))))) (gtN 7)) [.d N,⇑p,⇑q,⇑s,w4,⇑k,.d (oD m),z7]=.nx [.d N,⇑p,⇑q,⇑s,w4,⇑k,.d (oD m),.d (oD c)]:=by
  generalize oD c=Z at *;generalize oD m=Y at *;exact zap (zaN (zab rfl (zab rfl (zab rfl (zab (zcI (zb1 061 rfl hw) fw) rfl rfl) rfl) rfl) rfl) rfl f2 (by simp[sc])) rfl rfl
 refine L2.zag b1 ?_;rcases h with ⟨rfl,rfl⟩ | ⟨a,rfl,rfl⟩
 .exact if_f (or_f (zaq (zal 04 04 rfl rfl rfl rfl) rfl) (zdm 0019)) rfl
 .have ad:fAdd ⇑s ⇑(a - s)=some ⇑a:=by
   rw[zqR]
   congr 3
   omega
  have fe:fEq true ⇑a ⇑a=some 0002:=by simp
  exact if_f (or_f (zaq (zal 04 04 rfl rfl rfl rfl) rfl) (zek 0019 (zaq (zal (zal rfl rfl rfl rfl rfl ad) rfl rfl rfl rfl fe) rfl))) rfl
theorem zob (ok:zay n rs) (T:Taut rs) (hp:0<=p/\p < n) (hq:0<=q/\q < n):zc4 [.d 02,⇑p,⇑q,.d (oD 073),.d (.list ((detL n rs p q).map detD))]=.ok 037 []:=by
 obtain ⟨ρ',e,z5,z6,z7,rfl⟩:=zbZ (G:=gtT (zaf (gtN 5) (zaf (gtN 6) zaV))) (S:=zcF) (items:=((detL n rs p q).map detD).map O.d) (ρ:=[.d 02,⇑p,⇑q,.d (oD 073),.d (.list ((detL n rs p q).map detD)),.z,.z,.z])
  (fun i ρ=>∃z5 z6 z7,ρ=[.d 02,⇑p,⇑q,.d (oD 073),.d (.list ((detL n rs p q).map detD)),z5,z6,z7]) ⟨_,_,_,rfl⟩ (fun i x ρ hx hx__=>by
   obtain ⟨z5,z6,z7,er⟩:=hx__;subst er;rw[List.getElem?_map,List.getElem?_map] at hx;obtain ⟨y,hy,rfl⟩:=Option.map_eq_some_iff.mp hx;obtain ⟨⟨k,m⟩,hm,rfl⟩:=Option.map_eq_some_iff.mp hy;obtain ⟨s,hs,hk,h⟩:=zo0 (List.mem_of_getElem? hm);obtain ⟨ow,Dw,c1,c2,c3⟩:=F42.zj7 ok T hp hq hk;have st:=zkL (s:=s) (w4:=.d (.list ((detL n rs p q).map detD))) (z7:=z7) (m:=m) c1 c2 c3 h;rw[hs];exact ⟨_,_,rfl,st,_,_,_,rfl⟩)
 have zqk:=F42.zqk;generalize ((detL n rs p q).map detD)=Dd at *;generalize netD n rs=N at *;generalize oD 073=Z at *;have sr:srcM false 001 (zaa 4) [.d N,⇑p,⇑q,.d Z,.d (.list Dd),.z,.z,.z]=.ok ((Dd.map O.d,none),true) [.d N,⇑p,⇑q,.d Z,.d (.list Dd),.z,.z,.z] true:=rfl;exact zaY (n:=8) rfl (L2.zag (F30.zeB sr e) (zaL rfl rfl)) (zqk _)
def idxO (P:Nat->Bool) (m:Nat):List O:=((List.range m).filter P).map fun i:Nat=>⇑(i:Int)
theorem zjR (P:Nat->Bool) (m:Nat):idxO P (m+1)=if P m=true then idxO P m++[⇑(m:Int)] else idxO P m:=by
 unfold idxO;rw[List.range_succ,List.filter_append,List.map_append]
 by_cases h:P m=true
 .rw[if_pos h];simp[h]
 .rw[if_neg h];simp[h]
theorem zld (P:Nat->Bool) (m:Nat):(idxO P m).length<=m:=by
 unfold idxO;rw[List.length_map];exact Nat.le_trans (List.length_filter_le _ _) (by rw[List.length_range];exact Nat.le_refl _)
theorem zjB (P:Nat->Bool) (m:Nat):O.l (idxO P m)=zad (((List.range m).filter P).map fun i:Nat=>(i:Int)):=by
 unfold idxO zad;rw[List.map_map];rfl
theorem zfl (ok:zay n rs) (T:Taut rs) (hp:0<=p/\p < n) (hq:0<=q/\q < n) :
  ∃z6 z7 z8,sFor (itR1 (eB (zac 059 aNil) (f1 fLen))) (gtN 6) zbY [.d 02,⇑p,⇑q,.d (oD 073),.l [],.l [],.z,.z,.z,.z]=.nx [.d 02,⇑p,⇑q,.d (oD 073),.l (idxO (tP n rs p q) rs.length),.l (idxO (wP n rs p q) rs.length),z6,z7,z8,.z]:=by
 have hz:=ok.len;obtain ⟨ρ',e,hh,z6,z7,z8,rfl⟩:=zbZ (G:=gtN 6) (S:=zbY) (items:=rngO 0 rs.length) (ρ:=[.d 02,⇑p,⇑q,.d (oD 073),.l [],.l [],.z,.z,.z,.z])
  (fun i ρ=>i<=rs.length/\∃z6 z7 z8,ρ=[.d 02,⇑p,⇑q,.d (oD 073),.l (idxO (tP n rs p q) i),.l (idxO (wP n rs p q) i),z6,z7,z8,.z]) ⟨Nat.zero_le _,_,_,_,rfl⟩ (fun i x ρ hx hx__=>by
   obtain ⟨hi,z6,z7,z8,er⟩:=hx__;subst er;obtain ⟨hi,rfl⟩:=zda hx;rw[Int.zero_add];obtain ⟨r,hr,hr'⟩:=zeg (rs:=rs) (k:=(i:Int)) ∅ ∅;obtain ⟨ob,D7,b1,b2,b3⟩:=by_D ok T hp hq hr;obtain ⟨ow,Dw,c1,c2,c3⟩:=F42.zj7 ok T hp hq (k:=(i:Int)) ⟨by omega,by omega⟩;have me:=zep ok T hp hq hr;have t1:=zld (tP n rs p q) i;have t2:=zld (wP n rs p q) i;have st:=zkz (Th:=idxO (tP n rs p q) i) (Wa:=idxO (wP n rs p q) i) (z7:=z7) (z8:=z8) (z9:=.z) b1 b2 b3 (fun W ld=>zqb ok hp hq ld) c1 c2 c3 me ∅ ∅;have e1:tP n rs p q i=decide (cel n rs p q≠none/\onO n rs p q r≠none/\onO n rs p q r=cel n rs p q):=by
    unfold tP;rw[Int.toNat_natCast] at hr';rw[hr']
   have e2:wP n rs p q i=decide (cel n rs p q≠none/\cel n (zaO rs ((i:Int)).toNat) p q≠cel n rs p q):=by
    rw[Int.toNat_natCast];rfl
   rw[<-e1,<-e2,<-zjR,<-zjR] at st;exact ⟨_,_,rfl,st,hi,_,_,_,rfl⟩)
 rw[zcN] at e;exact ⟨z6,z7,z8,zgR (zg0 (zaC (F30.zpp rfl) rfl rfl) (zeq ∅ ∅) ∅) e⟩
end F45
namespace F45
open F30 (cel detL zav zaQ zaW detE detD detO)
open F29 (zaO up)
open F32 (IsO zbC onO lO zbf zbO zep)
open F34 (zdm zfF)
open F42 (sumO legs zb1)
variable {n p q:Int} {rs:List Road}
theorem zfj (L:List Int) (b:Bool):fEq b (zad L) (zad L)=some (.d (.bool (!b))):=
 ze1 (zbK L) (zbK L) (zdX L) (zdY _ (Bool.and_eq_true_iff.mp (zdX L)).1) b
theorem zlU {ρ:Rho} {xs:List (Int×Option Int)} (h:ρ[9]? = some (.d (.list (xs.map detD)))) (hl:xs.length<=1000) (pk:zdp [none] ρ=[.z]) (hb:∀x:O,zcb [none] [x] (clrR [none] ρ)=ρ):∃qq,eLS (srcM true 001 (zaa 9)) [none] (gtN 0) 055 zb0 ρ=.ok (.own (zad (xs.map Prod.fst))) ρ qq:=by
 have sr:srcM true 001 (zaa 9) ρ=.ok (((xs.map detD).map O.d,none),true) ρ true:=F24.zoj h;obtain ⟨qq,e⟩:=F42.zk5 (js:=[none]) (G:=gtN 0) (A:=zb0) (fun o=>match o with | .d (.tuple (x::_))=>.d x | o=>o) sr (by simp;omega) (fun x hx=>by
  rw[List.map_map] at hx;obtain ⟨⟨k,m⟩,hm,rfl⟩:=List.mem_map.mp hx;rw[pk]
  show ∃ρ1 r ρ3 q3 ρ4,gtN 0 (.d (.tuple [.int k,oD m])) [O.z]=some ρ1/\zb0 ρ1=.ok r ρ3 q3/\coe ρ3 r=some (O.d (.int k),ρ4)/\zcb [none] ρ4 (clrR [none] ρ)=ρ
  generalize oD m=M;exact ⟨[.d (.tuple [.int k,M])],_,_,_,[.d (.tuple [.int k,M])],rfl,zbt rfl 09 rfl rfl,rfl,hb _⟩)
 refine ⟨qq,e.trans ?_⟩;have em:∀f:O->O,(∀x:Int×Option Int,f (.d (detD x))=⇑x.1)->((xs.map detD).map O.d).map f=(xs.map Prod.fst).map fun h=>O.d (.int h):=fun f hf=>by
  rw[List.map_map,List.map_map,List.map_map];exact List.map_congr_left fun x _=>hf x
 rw[em _ fun x=>rfl];rfl
theorem zlL (ρ:Rho):zcu 05 ρ=[]:=by
 rcases ρ with _ | ⟨a,_ | ⟨b,_ | ⟨c,r⟩⟩⟩<;>simp[zcu]
theorem znV (ok:zay n rs) (T:Taut rs) (hp:0<=p/\p < n) (hq:0<=q/\q < n):zcp [.d 02,⇑p,⇑q]=.ok 037 []:=by
 obtain ⟨o4,D4,l1,l2,l3⟩:=F42.zmz ok T hp hq;have s4:=F30.zfB 073;obtain ⟨z6,z7,z8,lp⟩:=zfl ok T hp hq;have g1:=F30.zjy ok T hp hq;have g2:=F30.zl8 ok T hp hq;have g3:=F30.zg6 ok T hp hq;have e1:=zfj (zav n rs p q) true;have e2:=zfj ((detL n rs p q).map Prod.fst) true;have e3:=zfj ((detL n rs p q).map Prod.fst) false;have fd:=F30.zoq (detL n rs p q);have mo:=zob ok T hp hq;have dl:=F30.zkq (n:=n) (one:=p) (other:=q) (rs:=rs);have hz:=ok.len;rw[zjB,zjB,<-zhf,<-zlK ok T hp hq] at lp;obtain ⟨qf,ff⟩:=zlU (ρ:=[.d 02,⇑p,⇑q,.d (oD 073),zad (zav n rs p q),zad ((detL n rs p q).map Prod.fst),z6,z7,z8,.d (.list ((detL n rs p q).map detD))]) (xs:=detL n rs p q) rfl ∅ rfl fun _=>rfl
 unfold zad at *;generalize ((detL n rs p q).map Prod.fst).map 0023=Ns at *;generalize (zav n rs p q).map 0023=Ts at *;generalize (detL n rs p q).map detD=Dd at *;generalize detO (detL n rs p q)=Do at *;generalize oD 073=Z at *;generalize netD n rs=N at *;have b1:(sAsg coe (zah 01 zan (zac (zaa 0) (zac (zaa 1) (zac (zaa 2) (zac (eFz (zah 05 zbB 07)) aNil))))) (gtN 3)) [.d N,⇑p,⇑q,.z,.z,.z,.z,.z,.z,.z]=.nx [.d N,⇑p,⇑q,.d Z,.z,.z,.z,.z,.z,.z]:=
  zap (zaN (zab rfl (zab rfl (zab rfl (zab (zcI (zb1 008 rfl l1) l2) rfl rfl) rfl) rfl) rfl) rfl l3 (by simp[s4])) rfl rfl
 have b5:(sIf (gOr (tst (L2.e2 (zah 05 zcw 07) (zaa 4) 0000)) (tst (L2.e2 (zah 05 zc8 07) (zaa 5) 0000))) 005 sNil) [.d N,⇑p,⇑q,.d Z,.l Ts,.l Ns,z6,z7,z8,.z]=.nx [.d N,⇑p,⇑q,.d Z,.l Ts,.l Ns,z6,z7,z8,.z]:=
  if_f (or_f (zaq (zal (zaI 008 rfl g1 rfl rfl) rfl rfl rfl rfl e1) rfl) (zaq (zal (zaI 008 rfl g2 rfl rfl) rfl rfl rfl rfl e2) rfl)) rfl
 have b6:(sAsg coe (eFz (zah 05 zbT 07)) (gtN 9)) [.d N,⇑p,⇑q,.d Z,.l Ts,.l Ns,z6,z7,z8,.z]=.nx [.d N,⇑p,⇑q,.d Z,.l Ts,.l Ns,z6,z7,z8,.d (.list Dd)]:=
  zap (zcI (zaI 008 rfl g3 rfl rfl) fd) rfl rfl
 exact zaY (n:=10) rfl (L2.zag b1 (L2.zag (zap 040 rfl rfl) (L2.zag (zap 040 rfl rfl) (L2.zag lp (L2.zag b5 (L2.zag b6 (zaL (zk6 (zaC (zal ff rfl rfl rfl rfl e3) rfl rfl) (zaC (zaN (zab rfl 061 rfl) rfl mo rfl) rfl rfl)) rfl)))))))  (zlL _)
end F45
namespace F45
open F30 (cel detL zav zaQ zaW detE detD detO)
open F29 (zaO up)
open F32 (IsO zbC onO lO zbf zbO zep)
open F34 (zdm zfF WkN get gone zch)
open F42 (sumO legs zb1)
variable {n p q:Int} {rs:List Road}
theorem WkN.wk {k:Nat} {p q L:Int} (w:WkN rs k p q L):Wk rs p q L:=by
 induction w with
 | nil p=>exact .nil p
 | @snoc k p L r _ hr ih=>exact ih.trans (Wk.one hr)
theorem WkN.trans {j k:Nat} {p t q L M:Int} (w:WkN rs k p t L) (v:WkN rs j t q M):WkN rs (k+j) p q (L+M):=by
 induction v with
 | nil p=>rw[Int.add_zero];exact w
 | @snoc j t M r _ hr ih=>
  have:=WkN.snoc (ih w) hr
  rwa [show L+M+r.2.2=L+(M+r.2.2) by omega] at this
theorem zgC:∀{W:List Int} {p q:Int},zaR rs p q W=true->WkN rs W.length p q (zaK rs W)
 | [],p,q,h=>by
  have:p=q:=of_decide_eq_true h
  subst this;exact .nil p
 | k::W,p,q,h=>by
  obtain ⟨r,e,rfl,l⟩:=zhb h
  have:=F42.WkN.cons (zbp e) (zgC l) rfl
  rw[zcq,zdt e];exact this
def cnt (n:Int) (rs:List Road) (p q:Int) (k:Nat):Option Int:=get (gone n.toNat rs p k) q
theorem ziD (ok:zay n rs) (hp:0<=p/\p < n) (hq:0<=q/\q < n) (k:Nat):IsO (WkN rs k p q) (cnt n rs p q k):=zch ok hp k q hq
theorem zl0 (ok:zay n rs) (T:Taut rs) (hp:0<=p/\p < n) (hq:0<=q/\q < n) {L:Int} (w:Wk rs p q L):∃W:List Int,zaR rs p q W=true/\zaK rs W<=L/\(W.length:Int) < n:=by
 rcases zjz ok T hp hq with ⟨no,_⟩ | ⟨W,hs,_,lw⟩
 .exact absurd w (no L)
 .refine ⟨W,lw.ld,lw.ds.2 L w, ?_⟩;have al:=zeA lw.ld
  have:=ziH (n:=n.toNat) (xs:=q::W.map (zdH rs)) (List.pairwise_cons.mpr ⟨fun x hx z=>lw.no (z ▸ hx),lw.nd⟩) fun x hx=>by
   rcases List.mem_cons.mp hx with rfl | hx
   .omega
   .obtain ⟨k,hk,rfl⟩:=List.mem_map.mp hx;obtain ⟨k0,k1⟩:=al k hk;obtain ⟨r,hr,_⟩:=zeg k0 k1;obtain ⟨a,_,_⟩:=ok.rd r (zbp hr)
    have:zdH rs k=r.1:=by unfold zdH;rw[hr]
    omega
  simp only[List.length_cons,List.length_map] at this;omega
theorem zo6 (ok:zay n rs) (T:Taut rs) (hp:0<=p/\p < n) (hq:0<=q/\q < n):minO 051=cel n rs p q:=
 (zlq _).eq (zbC ok T hp hq) (fun L h=>by
  obtain ⟨k,_,e⟩:=List.mem_map.mp h
  have:=ziD ok hp hq k
  rw[e] at this;exact ⟨L,Int.le_refl _,WkN.wk this.1⟩) (fun L w=>by
  obtain ⟨W,ld,le,lt⟩:=zl0 ok T hp hq w;have c:=ziD ok hp hq W.length
  cases e:cnt n rs p q W.length with
  | none=>
   rw[e] at c;exact absurd (zgC ld) (c _)
  | some M=>
   rw[e] at c
   have:=c.2 _ (zgC ld)
   exact ⟨M,by omega,List.mem_map.mpr ⟨W.length,List.mem_range.mpr ∅,e⟩⟩)
theorem zpP {t:Int} {k j:Nat} {x y:Int} (ok:zay n rs) (hp:0<=p/\p < n) (ht:0<=t/\t < n) (hq:0<=q/\q < n) (hx:cnt n rs p t k=some x) (hy:cnt n rs t q j=some y):∃z,cnt n rs p q (k+j)=some z/\z<=x+y:=by
 have a:=ziD ok hp ht k;have b:=ziD ok ht hq j;have c:=ziD ok hp hq (k+j);rw[hx] at a;rw[hy] at b;have w:=WkN.trans a.1 b.1
 cases e:cnt n rs p q (k+j) with
 | none=>rw[e] at c;exact absurd w (c _)
 | some z=>rw[e] at c;exact ⟨z,rfl,c.2 _ w⟩
def CntD (rs:List Road) (p q:Int) (k:Nat) (c:Option Int) (D:PyData):Prop:=(c=none/\D=.none)\/∃x ws,c=some x/\D=.tuple [.int x,zai ws]/\ws.length=k/\zaR rs p q ws=true/\zaK rs ws=x
theorem zlp {k:Int} (ok:zay n rs) (T:Taut rs) (hp:0<=p/\p < n) (hq:0<=q/\q < n) (k0:0<=k) (k1:k<=60):∃o D,zas [.d 02,⇑p,⇑q,⇑k]=.ok o []/\fz o=some D/\CntD rs p q k.toNat (cnt n rs p q k.toNat) D:=by
 rcases F34.zkW ok T hp hq k0 k1 with ⟨g,e⟩ | ⟨x,ws,g,l,ld,wl,e⟩
 .exact ⟨_,_,e,fz_d _,.inl ⟨g,rfl⟩⟩
 .refine ⟨_,.tuple [.int x,zai ws],e, ?_,.inr ⟨x,ws,g,rfl,l,ld,wl⟩⟩;have f1:=zbK ws;simp[fz,fzs,f1,zai]
theorem zlO {k:Nat} {c:Option Int} {D:PyData} (h:CntD rs p q k c D):fIs true (.d D) 042=some (.d (.bool (decide (c≠none)))):=by
 rcases h with ⟨rfl,rfl⟩ | ⟨L,W,rfl,rfl,_⟩
 .simp[fIs]
 .simp[fIs]
theorem zm4 {k:Nat} {c:Option Int} {D:PyData} (h:CntD rs p q k c D):zaX [.d D]=.ok (.d (oD c)) []:=by
 rcases h with ⟨rfl,rfl⟩ | ⟨L,W,rfl,rfl,_⟩
 .exact F42.zm1
 .exact F42.zl3
end F45
namespace F45
open F30 (cel detL zav zaQ zaW detE detD detO)
open F32 (IsO zbC onO lO zbf zbO zep)
open F34 (zdm zfF WkN get gone zch)
open F42 (sumO legs zb1)
variable {n p q:Int} {rs:List Road}
theorem zmW {w4 w5 z6 z7 z8 z9 z10 z11:O} (ok:zay n rs) (T:Taut rs) (hp:0<=p/\p < n) (hq:0<=q/\q < n) {w3:O} :
  ∃qq,eLC (itR1 069) 0016 (gtN 0) 055 zbD 041=.ok (.own (rowO 051)) 041 qq:=by
 have n0:=ok.n0;have n1:=ok.n1;have it:itR1 069 041=.ok (rngO 0 n.toNat) 041 true:=zg0 (zaC (F42.znu rfl) rfl rfl) (zeq ∅ ∅) rfl;obtain ⟨qq,e⟩:=F42.zrf (js:=0016) (G:=gtN 0) (A:=zbD) (fun o=>match o with | ⇑k=>cO (cnt n rs p q k.toNat) | o=>o) it (by simp;omega) (fun x hx=>by
  obtain ⟨i,hi,rfl⟩:=List.mem_map.mp hx;have hi:=List.mem_range.mp hi;rw[Int.zero_add];obtain ⟨o,D,c1,c2,c3⟩:=zlp (k:=(i:Int)) ok T hp hq ∅ ∅;have cf:=zm4 c3;have sc:=F30.zfB (cnt n rs p q ((i:Int)).toNat)
  show ∃ρ1 r ρ3 q3 ρ4,gtN 0 ⇑(i:Int) (zdp 0016 041)=some ρ1/\zbD ρ1=.ok r ρ3 q3/\coe ρ3 r=some (cO (cnt n rs p q ((i:Int)).toNat),ρ4)/\zcb 0016 ρ4 (clrR 0016 041)=041
  rw[zgY];generalize oD (cnt n rs p q ((i:Int)).toNat)=Z at *;generalize netD n rs=N at *;exact ⟨[⇑(i:Int),.d N,⇑p,⇑q],_,_,_,[⇑(i:Int),.d N,⇑p,⇑q],rfl,zaN (zab (zcI (zb1 061 rfl c1) c2) rfl rfl) rfl cf (by simp[sc]),rfl,rfl⟩)
 refine ⟨qq,e.trans ?_⟩;have em:∀g:O->O,(∀j:Nat,g ⇑(0+(j:Int))=cO (cnt n rs p q j))->(rngO 0 n.toNat).map g=((List.range n.toNat).map (cnt n rs p q)).map cO:=fun g hg=>by
  unfold rngO;rw[List.map_map,List.map_map];exact List.map_congr_left fun j _=>hg j
 rw[em _ fun j=>by rw[Int.zero_add];show cO (cnt n rs p q ((j:Int)).toNat)=_;rw[Int.toNat_natCast]];rfl
section
variable {N D8 D9 D10 D11:PyData} {t a b:Int} {c8 c9 c10 c11:Option Int} {k8 k9 k10 k11:Nat} {o8 o9 o10 o11 w4 w5 z8 z9 z10 z11:O}
theorem zlx (f8:zas [.d N,⇑p,⇑t,⇑a]=.ok o8 []) (g8:fz o8=some D8) (h8:CntD rs p t k8 c8 D8) (f9:zas [.d N,⇑t,⇑q,⇑b]=.ok o9 []) (g9:fz o9=some D9) (h9:CntD rs t q k9 c9 D9)
  (f10:zas [.d N,⇑p,⇑q,⇑(a+b)]=.ok o10 []) (g10:fz o10=some D10) (h10:CntD rs p q k10 c10 D10) (le:∀x y,c8=some x->c9=some y->∃z,c10=some z/\z<=x+y) :
  zcs [.d N,⇑p,⇑q,⇑t,w4,w5,⇑a,⇑b,z8,z9,z10,z11]=.nx 087:=by
 have b1:(sAsg coe (eFz (zah 01 zas (zac (zaa 0) (zac (zaa 1) (zac (zaa 3) (zac (zaa 6) aNil)))))) (gtN 8)) [.d N,⇑p,⇑q,⇑t,w4,w5,⇑a,⇑b,z8,z9,z10,z11]=.nx [.d N,⇑p,⇑q,⇑t,w4,w5,⇑a,⇑b,.d D8,z9,z10,z11]:=
  zap (zcI (zb1 061 rfl f8) g8) rfl rfl
 have b2:(sAsg coe (eFz (zah 01 zas (zac (zaa 0) (zac (zaa 3) (zac (zaa 2) 0001))))) (gtN 9)) [.d N,⇑p,⇑q,⇑t,w4,w5,⇑a,⇑b,.d D8,z9,z10,z11]=.nx [.d N,⇑p,⇑q,⇑t,w4,w5,⇑a,⇑b,.d D8,.d D9,z10,z11]:=
  zap (zcI (zb1 061 rfl f9) g9) rfl rfl
 have b3:(sAsg coe (eFz (zah 01 zas (zac (zaa 0) (zac (zaa 1) (zac (zaa 2) (zac (e2 (zaa 6) (zaa 7) fAdd) aNil)))))) (gtN 10)) [.d N,⇑p,⇑q,⇑t,w4,w5,⇑a,⇑b,.d D8,.d D9,z10,z11]=.nx 087:=
  zap (zcI (zb1 (zab rfl (zab rfl (zab rfl (zab 04 rfl rfl) rfl) rfl) rfl) rfl f10) g10) rfl rfl
 refine L2.zag b1 (L2.zag b2 (L2.zag b3 ?_));have t8:=zi5 (ρ:=087) (k:=8) rfl (zlO h8);have t9:=zi5 (ρ:=087) (k:=9) rfl (zlO h9);rcases h8 with ⟨rfl,rfl⟩ | ⟨x,ws,rfl,rfl,_⟩
 .rw[decide_eq_false (by simp)] at t8;exact if_f (zdm t8) rfl
 .rw[decide_eq_true (by simp)] at t8;rcases h9 with ⟨rfl,rfl⟩ | ⟨y,vs,rfl,rfl,_⟩
  .rw[decide_eq_false (by simp)] at t9;exact if_f (zek t8 (zdm t9)) rfl
  .rw[decide_eq_true (by simp)] at t9;obtain ⟨z,e,hz⟩:=le x y rfl rfl;rcases h10 with ⟨h,_⟩ | ⟨z',us,h,rfl,_⟩
   .rw[e] at h;cases h
   .rw[e] at h;cases h;have i8:=zfi (ρ:=044) (k:=8) rfl;have i9:=zfi (ρ:=044) (k:=9) rfl;have i10:=zfi (ρ:=044) (k:=10) rfl;have gt:fGt ⇑z ⇑(x+y)=some 0002:=by
     show some (O.d (.bool (decide (z > x+y))))=_
     rw[decide_eq_false ∅]
    exact if_f (zek t8 (zek t9 (or_f 0019 (zaq (zal i10 (zal i8 i9 rfl rfl rfl rfl) rfl rfl rfl gt) rfl)))) rfl
theorem zmD (f11:zas [.d N,⇑p,⇑q,⇑a]=.ok o11 []) (g11:fz o11=some D11) (h11:CntD rs p q a.toNat c11 D11) (a0:0<=a) (lg:∀ws,zaR rs p q ws=true->ws.length=a.toNat->zbn [.d N,⇑p,⇑q,.d (zai ws)]=.ok ⇑(zaK rs ws) []) {w3 z7:O} :
  zcr [.d N,⇑p,⇑q,w3,w4,w5,⇑a,z7,z8,z9,z10,z11]=.nx [.d N,⇑p,⇑q,w3,w4,w5,⇑a,z7,z8,z9,z10,.d D11]:=by
 have b1:(sAsg coe (eFz (zah 01 zas 032)) (gtN 11)) [.d N,⇑p,⇑q,w3,w4,w5,⇑a,z7,z8,z9,z10,z11]=.nx [.d N,⇑p,⇑q,w3,w4,w5,⇑a,z7,z8,z9,z10,.d D11]:=
  zap (zcI (zb1 061 rfl f11) g11) rfl rfl
 refine L2.zag b1 ?_;have t11:=zi5 (ρ:=[.d N,⇑p,⇑q,w3,w4,w5,⇑a,z7,z8,z9,z10,.d D11]) (k:=11) rfl (zlO h11);rcases h11 with ⟨rfl,rfl⟩ | ⟨x,ws,rfl,rfl,hl,ld,wl⟩
 .rw[decide_eq_false (by simp)] at t11;exact L2.zag (if_f (zdm t11) rfl) (if_f (zdm t11) rfl)
 .rw[decide_eq_true (by simp)] at t11;have lg:=lg ws ld hl;rw[wl] at lg;have el:f1 fLen [.d (zai ws)]=some ⇑a:=by
   have:f1 fLen [.d (zai ws)]=some ⇑(((ws.map PyData.int).map O.d).length):=rfl
   rw[this]
   congr 3
   simp;omega
  have fa:fEq true ⇑a ⇑a=some 0002:=by simp
  have fx:fEq true ⇑x ⇑x=some 0002:=by simp
  generalize zai ws=I at *;exact L2.zag (if_f (zek t11 (zaq (zal (zgT (zab 038 rfl rfl) rfl el) rfl rfl rfl rfl fa) rfl)) rfl) (if_f (zek t11 (zaq (zal (zaN (zab rfl (zab rfl (zab rfl (zab 038 rfl rfl) rfl) rfl) rfl) rfl lg rfl) 038 rfl rfl rfl fx) rfl)) rfl)
end
end F45
namespace F45
open F30 (cel)
open F34 (zdm zfF WkN get gone zch)
open F42 (sumO legs zb1)
variable {n p q t:Int} {rs:List Road}
theorem zpw {a b:Int} (ok:zay n rs) (T:Taut rs) (hp:0<=p/\p < n) (ht:0<=t/\t < n) (hq:0<=q/\q < n) (a0:0<=a) (b0:0<=b) (ab:a+b<=60) (w4 w5 z8 z9 z10 z11:O) :
  ∃D8 D9 D10:PyData,zcs [.d 02,⇑p,⇑q,⇑t,w4,w5,⇑a,⇑b,z8,z9,z10,z11]=.nx [.d 02,⇑p,⇑q,⇑t,w4,w5,⇑a,⇑b,.d D8,.d D9,.d D10,z11]:=by
 obtain ⟨o8,D8,f8,g8,h8⟩:=zlp (k:=a) ok T hp ht a0 ∅;obtain ⟨o9,D9,f9,g9,h9⟩:=zlp (k:=b) ok T ht hq b0 ∅;obtain ⟨o10,D10,f10,g10,h10⟩:=zlp (k:=a+b) ok T hp hq ∅ ab;refine ⟨D8,D9,D10,zlx f8 g8 h8 f9 g9 h9 f10 g10 h10 fun x y hx hy=>?_⟩
 have:=zpP ok hp ht hq hx hy
 rwa [show a.toNat+b.toNat=(a+b).toNat by omega] at this
theorem zpz {a:Int} (ok:zay n rs) (T:Taut rs) (hp:0<=p/\p < n) (hq:0<=q/\q < n) (a0:0<=a) (a1:a<=60) (w3 w4 w5 z7 z8 z9 z10 z11:O) :
  ∃D11:PyData,zcr [.d 02,⇑p,⇑q,w3,w4,w5,⇑a,z7,z8,z9,z10,z11]=.nx [.d 02,⇑p,⇑q,w3,w4,w5,⇑a,z7,z8,z9,z10,.d D11]:=by
 obtain ⟨o,D,f,g,h⟩:=zlp (k:=a) ok T hp hq a0 a1;exact ⟨D,zmD f g h a0 fun ws ld hl=>F43.zei ok hp hq ld ∅⟩
theorem zmk (ok:zay n rs) (T:Taut rs) (hp:0<=p/\p < n) (hq:0<=q/\q < n) (ht:0<=t/\t < n):zca [.d 02,⇑p,⇑q,⇑t]=.ok 037 []:=by
 have n0:=ok.n0;have n1:=ok.n1;have e1:=ze8 ok T;have ft:=zjZ 03;obtain ⟨q5,cl⟩:=zmW (w3:=⇑t) (w4:=.d 078) (w5:=.z) (z6:=.z) (z7:=.z) (z8:=.z) (z9:=.z) (z10:=.z) (z11:=.z) ok T hp hq;have fr:=ziG 051;have le:=zh3 (cs:=(List.range n.toNat).map (cnt n rs p q)) (by simp;omega) (.inr rfl);rw[zo6 ok T hp hq] at le;have rd:=zjv (ρ:=[.d 02,⇑p,⇑q,⇑t,.d 078,rowO 051,.z,.z,.z,.z,.z,.z]) (k:=4) (a:=1) (b:=2) (i:=p) (j:=q) (zeh n.toNat rs) rfl rfl rfl ∅ ∅;have sc:=F30.zfB 073;have ly:=F42.zim 073;have fe:=ze1 (fz_d (oD 073)) (fz_d (oD 073)) ly.shaped (zdY _ ly.1) true;unfold F30.cel at le sc fe;have pa:=fun (a b:Int) a0 b0 ab w5 z8 z9 z10=>zpw (a:=a) (b:=b) ok T hp ht hq a0 b0 ab (.d 078) w5 z8 z9 z10 .z
 have ka:=fun (a:Int) a0 a1 w5 z7 z8 z9 z10 z11=>zpz (a:=a) ok T hp hq a0 a1 ⇑t (.d 078) w5 z7 z8 z9 z10 z11
 unfold rowO at *;unfold tabO at *;generalize ((List.range n.toNat).map (cnt n rs p q)).map cO=X at *;generalize rowD 051=Xd at *;generalize oD (cell 03 p.toNat q.toNat)=Z at *;generalize tabD 03=Td at *;generalize netD n rs=N at *;obtain ⟨d1,d2,d3,s1⟩:=pa 1 2 (by decide) (by decide) (by decide) (.l X) .z .z .z;obtain ⟨d4,d5,d6,s2⟩:=pa 3 4 (by decide) (by decide) (by decide) (.l X) (.d d1) (.d d2) (.d d3);obtain ⟨d7,d8,d9,s3⟩:=pa 0 5 (by decide) (by decide) (by decide) (.l X) (.d d4) (.d d5) (.d d6);obtain ⟨d10,s4⟩:=ka 2 (by decide) (by decide) (.l X) ⇑5 (.d d7) (.d d8) (.d d9) .z;obtain ⟨d11,s5⟩:=ka 14 (by decide) (by decide) (.l X) ⇑5 (.d d7) (.d d8) (.d d9) (.d d10);have b1:(sAsg coe (eFz (zah [false] zbi 030)) (gtN 4)) [.d N,⇑p,⇑q,⇑t,.z,.z,.z,.z,.z,.z,.z,.z]=.nx [.d N,⇑p,⇑q,⇑t,.d Td,.z,.z,.z,.z,.z,.z,.z]:=
  zap (zcI (zaI 009 rfl e1 rfl rfl) ft) rfl rfl
 have b3:(sIf (tst (L2.e2 (zah [false] za1 (zac (zaa 5) aNil)) (eIx (eIx (zaa 4) (zaa 1)) (zaa 2)) 0000)) 005 sNil) 0017=.nx 0017:=
  if_f (zaq (zal (zaN 009 (zd4 (zgX rfl fr) rfl) le (by simp[sc])) rd rfl rfl rfl fe) rfl) rfl
 have src4:srcM false 001 (zaA coes .l (zac (zaA coes mkT (zac ↥1 (zac ↥2 aNil))) (zac (zaA coes mkT (zac ↥3 (zac ↥4 aNil))) (zac (zaA coes mkT (zac ↥0 (zac ↥5 aNil))) aNil)))) 0017=.ok (([.d (.tuple [.int 1,.int 2]),.d (.tuple [.int 3,.int 4]),.d (.tuple [.int 0,.int 5])],none),true) 0017 true:=rfl;have src5:srcM false 001 (zaA coes .l (zac ↥2 (zac ↥14 aNil))) [.d N,⇑p,⇑q,⇑t,.d Td,.l X,⇑0,⇑5,.d d7,.d d8,.d d9,.z]=.ok (([⇑2,⇑14],none),true) [.d N,⇑p,⇑q,⇑t,.d Td,.l X,⇑0,⇑5,.d d7,.d d8,.d d9,.z] true:=rfl;exact zaY (n:=12) rfl (L2.zag b1 (L2.zag (zap cl rfl rfl) (L2.zag b3 (L2.zag (F30.zeB src4 (zgN rfl s1 (zgN rfl s2 (zgN rfl s3 rfl)))) (L2.zag (F30.zeB src5 (zgN rfl s4 (zgN rfl s5 rfl))) (zaL rfl rfl)))))) (F34.zi0 _)
end F45
namespace F45
open F30 (cel)
open F34 (zdm zfF WkN get gone zch)
open F42 (sumO legs zb1 zgg legO zpM zqm)
variable {n:Int} {rs:List Road} {S:List Int}
theorem zlW {w0 w1 w3 w4:O} (n0:0<=n) (hS:∀s∈S,0<=s/\s < n) (h1:1<=S.length) (h7:S.length<=1000) (hw:w1=.d (zai S)\/w1=zad S) :
  ∃q,eLC (itZ 011) [none,none,some 2] (gtT 024) 055 zbr [w0,w1,.d 078,w3,w4]=.ok (.own (rowO 056)) [w0,.d (zai S),.d 078,w3,w4] q:=by
 have sh:=zeh n.toNat rs;have sl:=zre h1 hw;have fzd:fz (zad 092)=some (.list ((S.drop 1).map PyData.int)):=zbK _;have zo:=F42.zgr S 092;have iz:itZ 011 [w0,w1,.d 078,w3,w4]=.ok ((S.zip 092).map zgg) [w0,.d (zai S),.d 078,w3,w4] true:=by
  have n1:zaa 1 [w0,w1,.d 078,w3,w4]=.ok (.at 1 []) [w0,w1,.d 078,w3,w4] true:=by
   rcases hw with rfl | rfl<;>rfl
  have v1:vn [w0,w1,.d 078,w3,w4] (.at 1 [])=some w1:=by
   rcases hw with rfl | rfl<;>rfl
  have c1:coe [w0,w1,.d 078,w3,w4] (.at 1 [])=some (.d (zai S),[w0,.d (zai S),.d 078,w3,w4]):=by
   rcases hw with rfl | rfl
   .rfl
   .exact zgX rfl (zbK S)
  have e:011 [w0,w1,.d 078,w3,w4]=.ok [.at 1 [],.own (.d (.list ((S.drop 1).map PyData.int)))] [w0,w1,.d 078,w3,w4] true:=
   zab (q1:=true) (q2:=true) n1 (zab (q1:=true) (q2:=true) (zcI (zdv (q1:=true) (q2:=true) (q3:=true) n1 (ze9 (q:=true) 09) rfl rfl v1 sl) fzd) rfl rfl) rfl
  unfold itZ;rw[e];dsimp only[Re.bind];have c:coes [w0,w1,.d 078,w3,w4] [.at 1 [],.own (.d (.list ((S.drop 1).map PyData.int)))]=some ([.d (zai S),.d (.list ((S.drop 1).map PyData.int))],[w0,.d (zai S),.d 078,w3,w4]):=zmm c1 rfl;rw[c]
  show Re.ok (zipO 020 ((S.drop 1).map PyData.int)) _ true=_
  rw[zo]
 obtain ⟨q,lc⟩:=zds (js:=[none,none,some 2]) (G:=gtT 024) (T:=gRet true) (A:=zbr) (ρ:=[w0,.d (zai S),.d 078,w3,w4]) (fun _=>true) (legO n rs) (items:=(S.zip 092).map zgg) (acc:=[]) (q:=true) (fun x hx=>by
  obtain ⟨⟨a,b⟩,hm,rfl⟩:=List.mem_map.mp hx;have ha:=hS a (List.of_mem_zip hm).1;have hb:=hS b (List.mem_of_mem_drop (List.of_mem_zip hm).2);have rd:=zjv (ρ:=[⇑a,⇑b,.d 078]) (k:=2) (a:=0) (b:=1) (i:=a) (j:=b) sh rfl rfl rfl ∅ ∅;refine ⟨[⇑a,⇑b,.d 078],_,_,rfl,rfl,fun _=>⟨_,_,_,[⇑a,⇑b,.d 078],rd, ?_,rfl⟩,fun z=>nomatch z⟩
  show some (O.d (oD (cell 03 a.toNat b.toNat)),_)=some (cO (cel n rs a b),_)
  rw[zgY]
  rfl)
 have em:[]++(((S.zip 092).map zgg).filter fun _=>true).map (legO n rs)=(legs n rs S).map cO:=by
  rw[List.filter_eq_self.mpr (fun _ _=>rfl),List.nil_append,List.map_map];unfold F42.legs;rw[List.map_map];rfl
 rw[em] at lc;exact ⟨_,zmK iz (by
  show ((S.zip 092).map zgg).length<=sizeLine
  have:(1000:Nat)<=sizeLine:=by decide
  simp only[List.length_map,List.length_zip]
  omega) lc⟩
theorem zlS {o S:List Int} (h:o.Perm S):zdq o=zdq S:=zgK ((zdb o).trans (h.trans (zdb S).symm)) (zga o) (zga S)
theorem zkw {o:List Int} (h:o.length < 64):f1 zc5 [.d (zai o)]=some (zad (zdq o)):=by
 have:zsOf (.d (zai o))=some o:=by
  show (match fz (.d (zai o)) with | some (.list ds)=>dIs ds | _=>none)=_
  rw[fz_d];exact zgO o
 show zc5 (.d (zai o))=_
 unfold zc5;rw[this];dsimp only;rw[if_pos h];rfl
theorem zlZ {o:List Int} (h1:1<=S.length) (h:o∈ordB S):o[0]? = S[0]? := by
 obtain ⟨m,_,rfl⟩:=zgt h
 cases S with
 | nil=>simp at h1
 | cons a S=>rfl
theorem zkx {m:List Int} (lm:m.length=S.length - 2) (h1:1<=S.length) (k:Nat) (hk:k=S.length - 1):(S.take 1++m++lasL S)[k]? = if S.length<=1 then (S.take 1)[0]? else (lasL S)[0]? := by
 have lt:(S.take 1).length=1:=by rw[List.length_take];omega
 by_cases h2:S.length<=1
 .rw[if_pos h2];have e:k=0:=by omega
  rw[e,List.append_assoc,List.getElem?_append_left ∅]
 .rw[if_neg h2,List.getElem?_append_right (by rw[List.length_append];omega),List.length_append,lt,lm]
  congr 1
  omega
theorem znZ {o:List Int} (h1:1<=S.length) (h:o∈ordB S):o[o.length - 1]? = S[S.length - 1]? := by
 have lo:=(zjx h).length_eq;obtain ⟨m,pm,rfl⟩:=zgt h;have lm:m.length=S.length - 2:=by rw[pm.length_eq,zey]
 have e:(S.take 1++midL S++lasL S)[S.length - 1]? = S[S.length - 1]? := by rw[zqc S]
 rw[lo,zkx lm h1 _ rfl,<-e,zkx (zey S) h1 _ rfl]
theorem zk3 (h7:S.length<=7) (h:zes (cand n rs S)=none):sumO 056=none:=by
 have:=best_none.mp h
 cases e:sumO 056 with
 | none=>rfl
 | some L=>
  have:=mem_cand.mpr ⟨zh6 h7,e⟩
  rw[‹cand n rs S=[]›] at this;cases this
end F45
namespace F45
open F30 (cel)
open F34 (zdm zfF WkN get gone zch)
open F42 (sumO legs zb1 zgg legO zpM zqm zfs zmP)
variable {n:Int} {rs:List Road} {S:List Int}
theorem zoP {ρ:Rho} {ds:List PyData} {i:Int} {j:Nat} {x:PyData} (hj:ixN ds.length i=some j) (hx:ds[j]? = some x):gIx ρ (.own (.d 050)) i=some (.own (.d x)):=by
 unfold gIx;simp[nz,vn,vw,els,hj,hx,ze0]
theorem zkb {m:Nat} (h:1<=m):ixN m (-1)=some (m - 1):=by
 have e:m=(m - 1)+1:=by omega
 unfold ixN;rw[if_neg ∅];rw[if_pos ∅]
 congr 1
 omega
theorem zdf {o:List Int} {j:Nat} {x:Int} (h:o[j]? = some x):(o.map PyData.int)[j]? = some (.int x):=by rw[List.getElem?_map,h];rfl
theorem zjQ (ok:zay n rs) (T:Taut rs) (hS:∀s∈S,0<=s/\s < n) (h1:1<=S.length) (h7:S.length<=7) {w:O} (hw:w=.d (zai S)\/w=zad S):zbo [.d 02,w]=.ok 037 []:=by
 have e1:=ze8 ok T;have ft:=zjZ 03;obtain ⟨ql,l⟩:=zlW (rs:=rs) (w0:=.d 02) (w3:=.z) (w4:=.z) ok.n0 hS h1 ∅ hw;have su:=zmP 056;have sc:=F30.zfB (sumO 056);obtain ⟨bo,b1,b2⟩:=zhP ok T hS h1 h7 (.inl rfl);have th:=zfs ok T hS h1 h7;have ly:=F42.zim (sumO 056);have fe:=ze1 (fz_d (oD (sumO 056))) (fz_d (oD (sumO 056))) ly.shaped (zdY _ ly.1) true;have no:=zfF (sumO 056);have sS:=zkw (o:=S) ∅
 cases hb:zes (cand n rs S) with
 | none=>
  rw[hb] at b2;have nn:=zk3 h7 hb;rw[nn] at su sc th fe;unfold tabO rowO at *;unfold zkQ at b2;generalize (legs n rs S).map cO=R at *;generalize netD n rs=N at *;generalize zai S=I at *;generalize tabD 03=Td at *;have s1:(sAsg coe (eFz (zah [false] zbi 030)) (gtN 2)) [.d N,w,.z,.z,.z]=.nx [.d N,w,.d Td,.z,.z]:=zap (zcI (zaI 009 rfl e1 rfl rfl) ft) rfl rfl;have s2:(sAsg coe (zah [false] zaJ (zac (eLC (itZ 011) [none,none,some 2] (gtT 024) 055 zbr) aNil)) (gtN 3)) [.d N,w,.d Td,.z,.z]=.nx [.d N,.d I,.d Td,.d .none,.z]:=zap (zaN (zab l rfl rfl) rfl su rfl) rfl rfl;have s3:(sAsg coe (eFz (zah 06 zbj 006)) (gtN 4)) [.d N,.d I,.d Td,.d .none,.z]=.nx [.d N,.d I,.d Td,.d .none,.d .none]:=zap (zcI (zb1 00 rfl b1) b2) rfl rfl;have s4:(sIf (tst (e2 (zah 06 zbU 006) (zaa 3) 0000)) 005 sNil) [.d N,.d I,.d Td,.d .none,.d .none]=.nx [.d N,.d I,.d Td,.d .none,.d .none]:=
   if_f (zaq (zal (zaN 00 rfl th rfl) rfl rfl rfl rfl fe) rfl) rfl
  have s5:091 [.d N,.d I,.d Td,.d .none,.d .none]=.rt 037 [.d N,.d I,.d Td,.d .none,.d .none]:=
   if_t 0019 (zaL 04 rfl)
  exact zaY (n:=5) rfl (L2.zag s1 (L2.zag s2 (L2.zag s3 (L2.zag s4 (L2.zdQ s5))))) rfl
 | some p=>
  obtain ⟨L,o⟩:=p;rw[hb] at b2;obtain ⟨mm,best⟩:=zmG hb;obtain ⟨oB,oL⟩:=mem_cand.mp mm;have op:=zjx oB;have ol:=op.length_eq;have th2:=zfs ok T (fun s hs=>hS s (op.subset hs)) ∅ (by omega:o.length<=7);rw[oL] at th2;have so:=zkw (o:=o) ∅;have sp:=zlS op;have es:=zfj (zdq S) true;rw[sp] at so;have e0:=zlZ h1 oB;have eL:=znZ h1 oB;obtain ⟨x,hx⟩:∃x,S[0]? = some x:=⟨_,List.getElem?_eq_getElem ∅⟩;obtain ⟨y,hy⟩:∃y,S[S.length - 1]? = some y:=⟨_,List.getElem?_eq_getElem ∅⟩;rw[hx] at e0;rw[hy] at eL;have iL:∀ρ:Rho,gIx ρ (.own (.d (zai o))) 0=some (.own ⇑x):=fun ρ=>zoP (j:=0) (zik ∅ (by simp only[List.length_map];omega)) (zdf e0)
  have iM:∀ρ:Rho,gIx ρ (.own (.d (zai o))) (-1)=some (.own ⇑y):=fun ρ=>zoP (j:=o.length - 1) (by rw[List.length_map];exact zkb ∅) (zdf eL)
  have iS:∀ρ:Rho,ρ[1]? = some (.d (zai S))->gIx ρ (.at 1 []) 0=some (.own ⇑x):=fun ρ h=>zg4 (j:=0) h (zik ∅ (by simp only[List.length_map];omega)) (zdf hx)
  have iT:∀ρ:Rho,ρ[1]? = some (.d (zai S))->gIx ρ (.at 1 []) (-1)=some (.own ⇑y):=fun ρ h=>zg4 (j:=S.length - 1) h (by rw[List.length_map];exact zkb ∅) (zdf hy)
  have fLx:fEq false ⇑L ⇑L=some 037:=by simp
  have fxx:∀x:Int,fEq true ⇑x ⇑x=some 0002:=fun x=>by
   have:=ze1 (fz_d (.int x)) (fz_d (.int x)) rfl (zdY _ rfl) true
   exact this
  have last:∃q,eOr (e2 (zaa 3) 013 (fIs false)) (e2 (eIx (zaa 4) ↥0) (zaa 3) fLe) [.d 02,.d (zai S),.d 078,.d (oD (sumO 056)),.d (.tuple [.int L,zai o])]=.ok (.own 037) [.d 02,.d (zai S),.d 078,.d (oD (sumO 056)),.d (.tuple [.int L,zai o])] q:=by
   cases hd:sumO 056 with
   | none=>exact ⟨_,zpM (zaC 04 rfl rfl)⟩
   | some d=>
    have hle:L<=d:=zqx (best _ (mem_cand.mpr ⟨zh6 h7,hd⟩));have f6:fLe ⇑L ⇑d=some 037:=by rw[zuM,decide_eq_true hle]
    exact ⟨_,zqm (zaC 04 rfl rfl) (zaC (zal 038 rfl rfl rfl rfl f6) rfl rfl)⟩
  obtain ⟨qq,last⟩:=last;unfold tabO rowO at *;unfold zkQ at b2;dsimp only at b2;unfold zad at so sS es;generalize (zdq S).map 0023=Ss at *;generalize oD (sumO 056)=Z at *;generalize (legs n rs S).map cO=R at *;generalize netD n rs=N at *;generalize zai S=I at *;generalize zai o=Io at *;generalize tabD 03=Td at *;have s1:(sAsg coe (eFz (zah [false] zbi 030)) (gtN 2)) [.d N,w,.z,.z,.z]=.nx [.d N,w,.d Td,.z,.z]:=zap (zcI (zaI 009 rfl e1 rfl rfl) ft) rfl rfl;have s2:(sAsg coe (zah [false] zaJ (zac (eLC (itZ 011) [none,none,some 2] (gtT 024) 055 zbr) aNil)) (gtN 3)) [.d N,w,.d Td,.z,.z]=.nx [.d N,.d I,.d Td,.d Z,.z]:=zap (zaN (zab l rfl rfl) rfl su (by simp[sc])) rfl rfl;have s3:(sAsg coe (eFz (zah 06 zbj 006)) (gtN 4)) [.d N,.d I,.d Td,.d Z,.z]=.nx 004:=zap (zcI (zb1 00 rfl b1) b2) rfl rfl;have s4:(sIf (tst (e2 (zah 06 zbU 006) (zaa 3) 0000)) 005 sNil) 004=.nx 004:=
   if_f (zaq (zal (zaN 00 rfl th (by simp[sc])) rfl rfl rfl rfl fe) rfl) rfl
  have f5:fIs false (.d (.tuple [.int L,Io])) 042=some 0002:=by simp[fIs]
  have s5:091 004=.nx 004:=
   if_f (zaq (zal rfl rfl rfl rfl rfl f5) rfl) rfl
  have i1:eIx (zaa 4) ↥1 004=.ok (.own (.d Io)) 004 (true&&true):=zbt rfl 09 rfl (by rw[zdE];rfl);have i0:eIx (zaa 4) ↥0 004=.ok (.own ⇑L) 004 (true&&true):=zbt rfl 09 rfl (by rw[zdE];rfl);have t1:(tst (e2 (eB (zac 090 aNil) (f1 zc5)) (eB 047 (f1 zc5)) 0000)) 004=.ok false 004 _:=
   zaq (zal (zgT (zab i1 rfl rfl) rfl so) (zgT 009 rfl sS) rfl rfl rfl es) rfl
  have t2:(tst (e2 (eIx 090 ↥0) (eIx (zaa 1) ↥0) 0000)) 004=.ok false 004 _:=
   zaq (zal (zbt i1 09 rfl (iL _)) (zbt rfl 09 rfl (iS _ rfl)) rfl rfl rfl (fxx x)) rfl
  have t3:(tst (e2 (eIx 090 ↥(-1)) (eIx (zaa 1) ↥(-1)) 0000)) 004=.ok false 004 _:=
   zaq (zal (zbt i1 09 rfl (iM _)) (zbt rfl 09 rfl (iT _ rfl)) rfl rfl rfl (fxx y)) rfl
  exact zaY (n:=5) rfl (L2.zag s1 (L2.zag s2 (L2.zag s3 (L2.zag s4 (L2.zag s5 (L2.zag (if_f (or_f t1 (or_f t2 t3)) rfl) (zaL (zk6 (zaC (zal (zaN (zab rfl (zab i1 rfl rfl) rfl) rfl th2 rfl) i0 rfl rfl rfl fLx) rfl rfl) (zaC last rfl rfl)) rfl))))))) rfl
end F45
namespace F45
open F30 (cel)
open F32 (IsO zbC)
open F34 (zdm zfF)
open F42 (zb1 zou)
theorem zpW {n:Int} {rs:List Road} {m:Nat} (nb:NetB n 300000000 6 m rs) (hm:m<=60):zay (n+1) rs:=⟨by have:=nb.n0;omega,by have:=nb.n1;omega,by have:=nb.len;omega,fun r hr=>by
 obtain ⟨a,b,c⟩:=nb.rd r hr;exact ⟨by omega,by omega,by omega⟩⟩
theorem zj2 {P0 P1:List O} {w:O} {n r:Int} (dr:zak [.l P0,⇑(n+1)]=.ok ⇑r [.l P1]):zdw [w,.l P0,⇑n]=.ok (.own ⇑r) [w,.l P1,⇑n] false:=
 zaI (zab rfl (zab 04 rfl rfl) rfl) rfl dr rfl rfl
theorem zt2 {p:O} {M n:Int} (hp:PuOk p M) (hM:M<=1125899906000000) (n0:0<=n) (n1:n<=20) {w0 w1 w4 w5 w6 w7 w8 w9 w10 w11:O} :
  ∃a b c d p',PuOk p' (M+16)/\(0<=a/\a < n+1)/\(0<=b/\b < n+1)/\(0<=c/\c < n+1)/\(0<=d/\d < n+1)/\∃q,eLC (itR1 ↥4) [none,some 2,some 3] (gtN 0) 055 zdw [w0,w1,p,⇑n,w4,w5,w6,w7,w8,w9,w10,w11]=.ok (.own (.l [⇑a,⇑b,⇑c,⇑d])) [w0,w1,p',⇑n,w4,w5,w6,w7,w8,w9,w10,w11] q:=by
 obtain ⟨a,p1,d1,a0,a1,hp1⟩:=zct (n:=n+1) hp ∅ ∅ ∅;obtain ⟨b,p2,d2,b0,b1,hp2⟩:=zct (n:=n+1) hp1 ∅ ∅ ∅;obtain ⟨c,p3,d3,c0,c1,hp3⟩:=zct (n:=n+1) hp2 ∅ ∅ ∅;obtain ⟨d,p4,d4,e0,e1,hp4⟩:=zct (n:=n+1) hp3 ∅ ∅ ∅;obtain ⟨x0,y0,z0,rfl⟩:=hp.sh;obtain ⟨x1,y1,z1,rfl⟩:=hp1.sh;obtain ⟨x2,y2,z2,rfl⟩:=hp2.sh;obtain ⟨x3,y3,z3,rfl⟩:=hp3.sh;obtain ⟨x4,y4,z4,rfl⟩:=hp4.sh;refine ⟨a,b,c,d,_,hp4.mono ∅,⟨a0,a1⟩,⟨b0,b1⟩,⟨c0,c1⟩,⟨e0,e1⟩,_,zmK (items:=rngO 0 4) (zg0 (j:=4) rfl rfl rfl) 079 (F24.zge rfl rfl (zj2 d1) rfl (F24.zge rfl rfl (zj2 d2) rfl (F24.zge rfl rfl (zj2 d3) rfl (F24.zge rfl rfl (zj2 d4) rfl rfl))))⟩
theorem zrl {n p q x y:Int} {rs:List Road} (ok:zay n rs) (T:Taut rs) (hp:0<=p/\p < n) (hq:0<=q/\q < n) (h1:cel n rs q p=some x) (h2:cel n rs p q=some y):-x<=y:=by
 have i1:=zbC ok T hq hp;have i2:=zbC ok T hp hq;rw[h1] at i1;rw[h2] at i2
 have:=T _ _ (Wk.trans i1.1 i2.1)
 omega
theorem zng {n p q:Int} {rs:List Road} (ok:zay n rs) (T:Taut rs) (hp:0<=p/\p < n) (hq:0<=q/\q < n) {w0 w1 w2 w3 w4 w5 w6 w7 w8 w9:O} :
  ∃qq,049 [w0,w1,w2,w3,w4,w5,w6,w7,w8,w9,.d (oD ((cel n rs q p).map fun x=>-x)),.d (oD 073)]=.ok false [w0,w1,w2,w3,w4,w5,w6,w7,w8,w9,.d (oD ((cel n rs q p).map fun x=>-x)),.d (oD 073)] qq:=by
 cases h1:cel n rs q p with
 | none=>exact ⟨_,zdm 0019⟩
 | some x=>
  cases h2:cel n rs p q with
  | none=>exact ⟨_,zek 0019 (zdm 0019)⟩
  | some y=>
   have le:=zrl ok T hp hq h1 h2;have g:fGt ⇑(-x) ⇑y=some 0002:=by rw[zuL,decide_eq_false ∅]
   exact ⟨_,zek 0019 (zek 0019 (zaq (zal rfl rfl rfl rfl rfl g) rfl))⟩
theorem zp2 (ns:List Int) {k:Int} (k0:0<=k) (k1:k < 2) {z2 z3 z4 z5 z6 z7 z8 z9 z10 z11:O} :
  ∃u2 u3 u4 u5 u6 u7 u8 u9 u10 u11,zer [.q 014,⇑k,z2,z3,z4,z5,z6,z7,z8,z9,z10,z11]=.nx [.q 014,⇑k,u2,u3,u4,u5,u6,u7,u8,u9,u10,u11]:=by
 obtain ⟨p,e1,hp⟩:=znN ns (k:=k) ∅ ∅;obtain ⟨n,rs,p1,eN,nb,sl,hp1⟩:=zp9 (most:=6) (many:=9) hp ∅ ∅ ∅ ∅ ∅;have T:=sl.taut;have ok:zay (n+1) rs:=zpW nb (by decide);have n0:=nb.n0;have n1:n<=6:=nb.n1;obtain ⟨a,b,c,d,p2,hp2,ha,hb,hc,hd,q4,dw⟩:=zt2 (w0:=.q 014) (w1:=⇑k) (w4:=.d (zar rs)) (w5:=.d (netD (n+1) rs)) (w6:=z6) (w7:=z7) (w8:=z8) (w9:=z9) (w10:=z10) (w11:=z11) hp1 ∅ n0 ∅;have ro:=znV ok T ha hb;have co:=zmk ok T ha hb hc;have wi:=zou ok T ha hb;have st1:=zjQ (S:=[a,c,d,a,b]) ok T (fun s hs=>by
  simp only[List.mem_cons,List.not_mem_nil,or_false] at hs;rcases hs with rfl | rfl | rfl | rfl | rfl<;>assumption) 079 079 (.inr rfl)
 have st2:=zjQ (S:=[a]) ok T (fun s hs=>by
  simp only[List.mem_cons,List.not_mem_nil,or_false] at hs;rcases hs with rfl
  assumption) 079 079 (.inr rfl)
 obtain ⟨qw,wt⟩:=zng (w0:=.q 014) (w1:=⇑k) (w2:=p2) (w3:=⇑n) (w4:=.d (zar rs)) (w5:=.d (netD (n+1) rs)) (w6:=⇑a) (w7:=⇑b) (w8:=⇑c) (w9:=⇑d) ok T ha hb;have fzr:fz (zbP rs)=some (zar rs):=zjG rs;have mk:mkT [⇑(n+1),.d (zar rs)]=.d (netD (n+1) rs):=rfl;have sI1:zad [a,c,d,a,b]=.l [⇑a,⇑c,⇑d,⇑a,⇑b]:=rfl;have sI2:zad [a]=.l [⇑a]:=rfl;rw[sI1] at st1;rw[sI2] at st2;obtain ⟨x0,y0,c0,rfl⟩:=hp.sh;obtain ⟨x1,y1,c1,rfl⟩:=hp1.sh;obtain ⟨x2,y2,c2,rfl⟩:=hp2.sh;unfold netO at *;unfold zbP at *;generalize oD ((cel (n+1) rs b a).map fun x=>-x)=Lo at *;generalize oD (cel (n+1) rs a b)=Hi at *;generalize rs.map (fun r=>O.d (zaG r))=X at *;generalize netD (n+1) rs=Nd at *;generalize zar rs=Rd at *;have s1:(sAsg coe (zah 06 zbS 006) (gtN 2)) [.q 014,⇑k,z2,z3,z4,z5,z6,z7,z8,z9,z10,z11]=.nx [.q 014,⇑k,.l [⇑x0,⇑y0,⇑c0],z3,z4,z5,z6,z7,z8,z9,z10,z11]:=zap 0006 rfl rfl;have s2:(sAsg coe (zah [true,false,false] zck (zac (zaa 2) (zac ↥6 (zac ↥9 aNil)))) (gtT (zaf (gtN 3) (zaf (gtN 4) zaV)))) [.q 014,⇑k,.l [⇑x0,⇑y0,⇑c0],z3,z4,z5,z6,z7,z8,z9,z10,z11]=.nx [.q 014,⇑k,.l [⇑x1,⇑y1,⇑c1],⇑n,.l X,z5,z6,z7,z8,z9,z10,z11]:=zap (zaI 008 rfl eN rfl rfl) rfl rfl;have s3:(sAsg coe (zaA coes mkT (zac (e2 (zaa 3) ↥1 fAdd) (zac (zaa 4) aNil))) (gtN 5)) [.q 014,⇑k,.l [⇑x1,⇑y1,⇑c1],⇑n,.l X,z5,z6,z7,z8,z9,z10,z11]=.nx [.q 014,⇑k,.l [⇑x1,⇑y1,⇑c1],⇑n,.d Rd,.d Nd,z6,z7,z8,z9,z10,z11]:=zap (zaw (zab 04 009 rfl) (zmm rfl (zmm (zgX rfl fzr) rfl)) 079 mk) rfl rfl;have s4:(sAsg coe (eLC (itR1 ↥4) [none,some 2,some 3] (gtN 0) 055 zdw) (gtL (zaf (gtN 6) (zaf (gtN 7) (zaf (gtN 8) (zaf (gtN 9) zaV)))))) [.q 014,⇑k,.l [⇑x1,⇑y1,⇑c1],⇑n,.d Rd,.d Nd,z6,z7,z8,z9,z10,z11]=.nx 045:=zap dw rfl rfl;have s5:(sIf (gOr (gNot (eSc trV (zah 05 zcp (zac (zaa 5) (zac (zaa 6) 0001))))) (gNot (eSc trV (zah 01 zca (zac (zaa 5) (zac (zaa 6) (zac (zaa 7) (zac (zaa 8) aNil)))))))) 005 sNil) 045=.nx 045:=
  if_f (or_f (zho (zaC (zaN 008 rfl ro rfl) rfl rfl)) (zho (zaC (zaN 061 rfl co rfl) rfl rfl))) rfl
 have s6:(sAsg coe (zah 05 zb8 (zac (zaa 5) (zac (zaa 6) 0001))) (gtT (zaf (gtN 10) (zaf (gtN 11) zaV)))) 045=.nx 023:=
  zap (zb1 008 rfl wi) rfl rfl
 have s7:(sIf 049 005 sNil) 023=.nx 023:=if_f wt rfl;have s8:(sIf (gOr (gNot (eSc trV (zah 06 zbo (zac (zaa 5) (zac (zaA coes .l (zac (zaa 6) (zac (zaa 8) (zac (zaa 9) (zac (zaa 6) 0001))))) aNil))))) (gNot (eSc trV (zah 06 zbo (zac (zaa 5) (zac (zaA coes .l (zac (zaa 6) aNil)) aNil)))))) 005 sNil) 023=.nx 023:=
  if_f (or_f (zho (zaC (zaN (zab rfl (zab (zaw (zab rfl 061 rfl) rfl 079 rfl) rfl rfl) rfl) rfl st1 rfl) rfl rfl)) (zho (zaC (zaN (zab rfl (zab (zaw 009 rfl 079 rfl) rfl rfl) rfl) rfl st2 rfl) rfl rfl))) rfl
 exact ⟨_,_,_,_,_,_,_,_,_,_,L2.zag s1 (L2.zag s2 (L2.zag s3 (L2.zag s4 (L2.zag s5 (L2.zag s6 (L2.zag s7 s8))))))⟩
theorem zhA (ns:List Int) (_:ns.length<=63):∃ρ',zfw (.q 014::List.replicate 11 .z)=.rt 037 ρ':=by
 obtain ⟨ρ',e,u1,u2,u3,u4,u5,u6,u7,u8,u9,u10,u11,rfl⟩:=zbZ (G:=gtN 1) (S:=zer) (items:=rngO 0 2) (ρ:=[.q 014,.z,.z,.z,.z,.z,.z,.z,.z,.z,.z,.z])
  (fun i ρ=>∃u1 u2 u3 u4 u5 u6 u7 u8 u9 u10 u11,ρ=[.q 014,u1,u2,u3,u4,u5,u6,u7,u8,u9,u10,u11]) ⟨_,_,_,_,_,_,_,_,_,_,_,rfl⟩
  (fun i x ρ hx h=>by
   obtain ⟨u1,u2,u3,u4,u5,u6,u7,u8,u9,u10,u11,e⟩:=h;obtain ⟨hi,rfl⟩:=zda hx;subst e;obtain ⟨v2,v3,v4,v5,v6,v7,v8,v9,v10,v11,st⟩:=zp2 ns (k:=0+i) ∅ ∅ (z2:=u2) (z3:=u3) (z4:=u4) (z5:=u5) (z6:=u6) (z7:=u7) (z8:=u8) (z9:=u9) (z10:=u10) (z11:=u11);exact ⟨_,_,rfl,st,_,_,_,_,_,_,_,_,_,_,_,rfl⟩)
 exact ⟨_,L2.zag (zgR (zg0 (j:=2) rfl rfl rfl) e) (zaL rfl rfl)⟩
end F45
theorem zhA (ns:List Int) (h:ns.length<=63):∃ρ',zfw (.q 014::List.replicate 11 .z)=.rt 037 ρ':=F45.zhA ns h
theorem vri {X:Cx} {E:XK} {i:Int} {j pos}:VR X E (.Constant (.int i) j pos) ↥i:=zcm zoL fun _ _=>.int _
theorem vrb {X:Cx} {E:XK} {i:Bool} {j pos}:VR X E (.Constant (.bool i) j pos) (eC (.bool i)):=zcm zt1 fun _ _=>.bl _
theorem ln1 {A:Type}:∀{us:List A},us.length=1->∃a0,us=[a0]
 | [a0],_=>⟨a0,rfl⟩
theorem ln2 {A:Type}:∀{us:List A},us.length=2->∃a0 a1,us=[a0,a1]
 | [a0,a1],_=>⟨a0,a1,rfl⟩
theorem ln3 {A:Type}:∀{us:List A},us.length=3->∃a0 a1 a2,us=[a0,a1,a2]
 | [a0,a1,a2],_=>⟨a0,a1,a2,rfl⟩
theorem ln4 {A:Type}:∀{us:List A},us.length=4->∃a0 a1 a2 a3,us=[a0,a1,a2,a3]
 | [a0,a1,a2,a3],_=>⟨a0,a1,a2,a3,rfl⟩
theorem ln5 {A:Type}:∀{us:List A},us.length=5->∃a0 a1 a2 a3 a4,us=[a0,a1,a2,a3,a4]
 | [a0,a1,a2,a3,a4],_=>⟨a0,a1,a2,a3,a4,rfl⟩
local macro_rules | `(tactic| o_new)=>`(tactic| first | exact ⟨rfl,rfl,rfl,by decide +kernel,rfl,by decide +kernel,by decide +kernel⟩ | (intro _ _ _ _ _ _ us hl;first | (obtain ⟨_,h⟩:=ln1 hl;subst h;rfl) | (obtain ⟨_,_,h⟩:=ln2 hl;subst h;rfl) | (obtain ⟨_,_,_,h⟩:=ln3 hl;subst h;rfl) | (obtain ⟨_,_,_,_,h⟩:=ln4 hl;subst h;rfl) | (obtain ⟨_,_,_,_,_,h⟩:=ln5 hl;subst h;rfl)))
local macro_rules | `(∅)=>`(by o_new)
def top (i:Nat):Stmt:=PySem.Challenge.pw_tautroads_k45_whole_by_without_and_count.main.body.getD i (.Pass ⟨0,0,0,0⟩)
theorem sc__law_at:zam ["_law_script","_law_k"] ["_law_script","_law_k"] (zae (top 59)):=∅
theorem sc__law_purse:zam ["_law_script","_law_at_here","_law_cell"] ["_law_script","_law_at_here"] (zae (top 61)):=∅
theorem sc__law_mixed:zam ["_law_cell","_law_k","_law_number_here"] ["_law_cell","_law_k"] (zae (top 60)):=∅
theorem sc__law_draw:zam ["_law_purse_here","_law_out_of","_law_drawn","_law_number_here","_law_k"] ["_law_purse_here","_law_out_of"] (zae (top 62)):=∅
theorem sc__law_number:zam ["_law_purse_here","_law_most","_law_far"] ["_law_purse_here","_law_most"] (zae (top 63)):=∅
theorem sc__law_net:zam ["_law_purse_here","_law_most","_law_many","_law_count","_law_high","_law_roads_here","_law_k","_law_one","_law_other","_law_slack"] ["_law_purse_here","_law_most","_law_many"] (zae (top 64)):=∅
theorem sc_is_place:zam ["count","number"] ["count","number"] (zae (top 12)):=∅
theorem sc_is_road:zam ["count","road","start","end","length"] ["count","road"] (zae (top 13)):=∅
theorem sc_check_net:zam ["net","count","roads","number","road"] ["net"] (zae (top 14)):=∅
theorem sc_check_place:zam ["net","number"] ["net","number"] (zae (top 15)):=∅
theorem sc_check_question:zam ["net","one","other"] ["net","one","other"] (zae (top 17)):=∅
theorem sc_lower_once:zam ["roads","values","entries","last","number","start","end","length"] ["roads","values","entries"] (zae (top 23)):=∅
theorem sc_lower:zam ["net","starts","count","roads","values","entries","last","turn"] ["net","starts"] (zae (top 24)):=∅
theorem sc_check_taut:zam ["net","values","entries","last"] ["net"] (zae (top 26)):=∅
theorem sc_lower_from:zam ["net","one","starts","values","entries","last"] ["net","one"] (zae (top 30)):=∅
theorem sc_places_reached:zam ["net","one","reached","at","start","end","length"] ["net","one"] (zae (top 29)):=∅
theorem sc_lengths_from:zam ["net","one","values","entries","reached"] ["net","one"] (zae (top 35)):=∅
theorem sc_window:zam ["net","one","other","most","back"] ["net","one","other"] (zae (top 37)):=∅
theorem sc_way_length:zam ["net","way","roads"] ["net","way"] (zae (top 19)):=∅
theorem sc_leads:zam ["net","one","other","way","roads","at","number"] ["net","one","other","way"] (zae (top 18)):=∅
theorem sc_length_of:zam ["net","one","other","way"] ["net","one","other","way"] (zae (top 21)):=∅
theorem sc__law_long:zam ["_law_net_here","_law_one","_law_other","_law_told"] ["_law_net_here","_law_one","_law_other","_law_told"] (zae (top 66)):=∅
theorem sc_table:zam ["net"] ["net"] (zae (top 36)):=∅
theorem sc_together:zam ["lengths"] ["lengths"] (zae (top 34)):=∅
theorem sc_tight:zam ["net","one","other","rows","straight","told","number","start","end","length"] ["net","one","other"] (zae (top 43)):=∅
theorem sc_shut:zam ["net","number","count","roads"] ["net","number"] (zae (top 40)):=∅
theorem sc_detours:zam ["net","one","other","numbers","straight","told","number","around"] ["net","one","other"] (zae (top 44)):=∅
theorem sc_way_back:zam ["net","entries","one","other","roads","way"] ["net","entries","one","other"] (zae (top 25)):=∅
theorem sc_least_in:zam ["net","one","other","reached","values","entries"] ["net","one","other"] (zae (top 31)):=∅
theorem sc_least:zam ["net","one","other"] ["net","one","other"] (zae (top 32)):=∅
theorem sc_check_road:zam ["net","number"] ["net","number"] (zae (top 16)):=∅
theorem sc_check_road_question:zam ["net","one","other","number"] ["net","one","other","number"] (zae (top 39)):=∅
theorem sc_by:zam ["net","one","other","number","start","end","length","ahead","behind","way"] ["net","one","other","number"] (zae (top 41)):=∅
theorem sc_without:zam ["net","one","other","number","told","way"] ["net","one","other","number"] (zae (top 42)):=∅
theorem sc__law_mores:zam ["_law_net_here","_law_one","_law_other","_law_due","_law_told","_law_number_here","_law_more","_law_rest"] ["_law_net_here","_law_one","_law_other","_law_due","_law_told"] (zae (top 69)):=∅
theorem sc__law_lesser:zam ["_law_some"] ["_law_some"] (zae (top 67)):=∅
theorem sc_needed:zam ["net","one","other"] ["net","one","other"] (zae (top 45)):=∅
theorem sc_is_way:zam ["net","one","other","way"] ["net","one","other","way"] (zae (top 20)):=∅
theorem sc__law_first:zam ["_law_told"] ["_law_told"] (zae (top 65)):=∅
theorem sc__law_roads:zam ["_law_net_here","_law_one","_law_other","_law_due","_law_there","_law_wanted","_law_number_here","_law_round_it","_law_rest","_law_told"] ["_law_net_here","_law_one","_law_other"] (zae (top 68)):=∅
theorem sc_one_road_more:zam ["roads","lengths","further","entries","number","start","end","length","reach"] ["roads","lengths"] (zae (top 49)):=∅
theorem sc_way_of_steps:zam ["roads","steps","other","way","at","entries"] ["roads","steps","other"] (zae (top 50)):=∅
theorem sc_counted:zam ["net","one","other","k","count","roads","lengths","steps","turn","entries"] ["net","one","other","k"] (zae (top 51)):=∅
theorem sc__law_counts:zam ["_law_net_here","_law_one","_law_other","_law_third","_law_rows","_law_found","_law_k","_law_j","_law_first_here","_law_second","_law_both","_law_told"] ["_law_net_here","_law_one","_law_other","_law_third"] (zae (top 70)):=∅
theorem sc__law_sum:zam ["_law_some"] ["_law_some"] (zae (top 71)):=∅
theorem sc_table_for:zam ["net","stops","stop"] ["net","stops"] (zae (top 52)):=∅
theorem sc_length_through:zam ["rows","stops"] ["rows","stops"] (zae (top 53)):=∅
theorem sc_orders:zam ["stops","told","at","stop","rest"] ["stops"] (zae (top 55)):=∅
theorem sc_orders_between:zam ["stops"] ["stops"] (zae (top 56)):=∅
theorem sc_best_order:zam ["net","stops","rows","found"] ["net","stops"] (zae (top 57)):=∅
theorem sc_through:zam ["net","stops"] ["net","stops"] (zae (top 54)):=∅
theorem sc__law_stops:zam ["_law_net_here","_law_stops_here","_law_rows","_law_due","_law_best"] ["_law_net_here","_law_stops_here"] (zae (top 72)):=∅
theorem sc_law:zam ["_law_script","_law_cell","_law_purse_here","_law_count","_law_roads_here","_law_net_here","_law_one","_law_other","_law_third","_law_last","_law_low","_law_high"] ["_law_script"] (zae (top 73)):=∅
abbrev Df (K:PySem.W.Frag) (mg:Str->Option Value) (x:Str) (s:Stmt):Prop:=∃f fd,Fun K x x s f fd/\mg x=some (.ref f)
structure Tx (K:PySem.W.Frag) (mg:Str->Option Value):Prop where
 d__law_at:Df K mg "_law_at" (top 59)
 d__law_purse:Df K mg "_law_purse" (top 61)
 d__law_mixed:Df K mg "_law_mixed" (top 60)
 d__law_draw:Df K mg "_law_draw" (top 62)
 d__law_number:Df K mg "_law_number" (top 63)
 d__law_net:Df K mg "_law_net" (top 64)
 d_is_place:Df K mg "is_place" (top 12)
 d_is_road:Df K mg "is_road" (top 13)
 d_check_net:Df K mg "check_net" (top 14)
 d_check_place:Df K mg "check_place" (top 15)
 d_check_question:Df K mg "check_question" (top 17)
 d_lower_once:Df K mg "lower_once" (top 23)
 d_lower:Df K mg "lower" (top 24)
 d_check_taut:Df K mg "check_taut" (top 26)
 d_lower_from:Df K mg "lower_from" (top 30)
 d_places_reached:Df K mg "places_reached" (top 29)
 d_lengths_from:Df K mg "lengths_from" (top 35)
 d_window:Df K mg "window" (top 37)
 d_way_length:Df K mg "way_length" (top 19)
 d_leads:Df K mg "leads" (top 18)
 d_length_of:Df K mg "length_of" (top 21)
 d__law_long:Df K mg "_law_long" (top 66)
 d_table:Df K mg "table" (top 36)
 d_together:Df K mg "together" (top 34)
 d_tight:Df K mg "tight" (top 43)
 d_shut:Df K mg "shut" (top 40)
 d_detours:Df K mg "detours" (top 44)
 d_way_back:Df K mg "way_back" (top 25)
 d_least_in:Df K mg "least_in" (top 31)
 d_least:Df K mg "least" (top 32)
 d_check_road:Df K mg "check_road" (top 16)
 d_check_road_question:Df K mg "check_road_question" (top 39)
 d_by:Df K mg "by" (top 41)
 d_without:Df K mg "without" (top 42)
 d__law_mores:Df K mg "_law_mores" (top 69)
 d__law_lesser:Df K mg "_law_lesser" (top 67)
 d_needed:Df K mg "needed" (top 45)
 d_is_way:Df K mg "is_way" (top 20)
 d__law_first:Df K mg "_law_first" (top 65)
 d__law_roads:Df K mg "_law_roads" (top 68)
 d_one_road_more:Df K mg "one_road_more" (top 49)
 d_way_of_steps:Df K mg "way_of_steps" (top 50)
 d_counted:Df K mg "counted" (top 51)
 d__law_counts:Df K mg "_law_counts" (top 70)
 d__law_sum:Df K mg "_law_sum" (top 71)
 d_table_for:Df K mg "table_for" (top 52)
 d_length_through:Df K mg "length_through" (top 53)
 d_orders:Df K mg "orders" (top 55)
 d_orders_between:Df K mg "orders_between" (top 56)
 d_best_order:Df K mg "best_order" (top 57)
 d_through:Df K mg "through" (top 54)
 d__law_stops:Df K mg "_law_stops" (top 72)
 d_law:Df K mg "law" (top 73)
 n_enumerate:mg "enumerate"=none
 n_int:mg "int"=none
 n_len:mg "len"=none
 n_list:mg "list"=none
 n_max:mg "max"=none
 n_min:mg "min"=none
 n_range:mg "range"=none
 n_reversed:mg "reversed"=none
 n_sorted:mg "sorted"=none
 n_sum:mg "sum"=none
 n_zip:mg "zip"=none
 g_FAR:∃t,mg "FAR"=some (.int (40000000000) t)
 g_MOST_LENGTH:∃t,mg "MOST_LENGTH"=some (.int (1000000000) t)
 g_MOST_PLACES:∃t,mg "MOST_PLACES"=some (.int (20) t)
 g_MOST_ROADS:∃t,mg "MOST_ROADS"=some (.int (60) t)
 g_MOST_STEPS:∃t,mg "MOST_STEPS"=some (.int (60) t)
 g_MOST_STOPS:∃t,mg "MOST_STOPS"=some (.int (7) t)
variable {P:Program} {w:World} {K:PySem.W.Frag} {mg:Str->Option Value} {base:Heap}
theorem dfo {x:Str} {st:Stmt} {N ps:List Str} {k n:Nat} {ms:List Bool} {S:SF} (d:Df K mg x st)
  (sc:zam N ps (zae st))
  (body:∀(f:Addr) (cdv:Value) (A:Around) (outer:List Env) (s:Shared) (H:Hp) (E:XK),Room k (A.deeper (PyProof.Rows.envOfC x (zae st) s.heap.objs.size f cdv))->
   VSs (cxOf (CXF P w base) P w K mg base N x (zae st) f cdv A outer s H E) E (zhN 0 ms) (zcg st) S)
  (hb:∀(kV doc pm:Value) (an:Option Addr) (cdv ct:Value) (us:List Value),us.length=ps.length->bindArgs 021 ⟨us,[]⟩=pure (ps.zip us):=by o_new)
  (hms:ms.length=ps.length:=by rfl) (hn:N.length=n:=by rfl) (hpn:ps.length<=n:=by decide):VDef P w K mg base x ps (k+1) ms (runF ms n S):=zlG d hb sc hms hn hpn body
local macro_rules | `(tactic| o_new)=>`(tactic| focus first
 | ((with_reducible show VSs _ _ _ _ _);first | exact zc3 | (refine zaP ?_;o_new) | (refine zaj ?_ ?_;o_new;o_new))
 | ((with_reducible show VS _ _ _ (.If _ _ _ _) _);refine zf2 ?_ ?_ ?_;o_new;o_new;o_new)
 | ((with_reducible show VS _ _ _ (.Return _ _) _);(first | refine zc7 zdh ?_ | refine zc7 zaZ ?_);o_new)
 | ((with_reducible show VS _ _ _ (.Assign _ _ _) _);first | (refine zjV zaZ (by assumption) rfl (Or.inl rfl) (by decide) ?_;o_new) | (refine zjV zaZ (by assumption) rfl (Or.inr rfl) (by decide) ?_;o_new) | (refine zrg zaZ ?_ ?_ ?_;o_new;o_new;o_new) | (refine zoC zaZ ?_ ?_;o_new;o_new))
 | ((with_reducible show VS _ _ _ (.AugAssign _ _ _ _) _);(first | refine zoB (by assumption) rfl (Or.inl rfl) (by decide) ?_ zoQ | refine zoB (by assumption) rfl (Or.inr rfl) (by decide) ?_ zoQ);o_new)
 | ((with_reducible show VS _ _ _ (.For _ _ _ _ _) _);(first | refine zhu ?_ rfl rfl ‹Tx _ _›.n_range ?_ ?_ ?_ | refine zjd ?_ rfl rfl ‹Tx _ _›.n_enumerate ?_ ?_ ?_ | refine zlw ?_ rfl ?_ ?_ ?_);(first | exact PassesOwn.leaving | exact PassesOwn.never);o_new;o_new;o_new)
 | ((with_reducible show VS _ _ _ (.While _ _ _ _) _);refine znS ?_ ?_ ?_;(first | exact PassesOwn.leaving | exact PassesOwn.never);o_new;o_new)
 | ((with_reducible show VG _ _ _ _);first | exact zbb (zbc (by assumption) rfl (Or.inl rfl)) (by decide) | exact zbb (zbc (by assumption) rfl (Or.inr rfl)) (by decide) | (refine zg2 rfl ?_ _ ?_;o_new;repeat (first | exact (fun _ _ _=>zdj) | refine za0 ?_)))
 | ((with_reducible show VGs _ _ _ _);first | exact zfG | (refine zcx ?_ ?_;o_new;o_new))
 | ((with_reducible show VT _ _ (.BoolOp _ _ _) _);refine vt_w ?_;repeat (first | (refine zqT ?_;o_new) | (refine zpX ?_;o_new) | (refine zuz ?_ ?_;o_new) | (refine zq3 ?_ ?_;o_new)))
 | ((with_reducible show VS _ _ _ (.Expr _ _) _);refine zlF ?_;o_new)
 | ((with_reducible show VT _ _ (.Compare _ [_] _ _) _);refine zsN ?_ ?_ ?_ (by with_unfolding_all rfl);(first | exact zqU | exact zsI | exact zs7 | exact ov_ge | exact zoT | exact zmv | exact zpe ‹Room _ _›.units | exact zrH ‹Room _ _›.units | exact zq5 ‹Room _ _›.units65 | exact zjA ‹Room _ _›.units65);o_new;o_new)
 | ((with_reducible show VT _ _ (.Compare _ _ _ _) _);refine znq ?_ ?_ ?_ ?_ ?_;(first | exact zm0 | exact zlk);(first | exact zm0 | exact zlk);o_new;o_new;o_new)
 | ((with_reducible show VT _ _ (.UnaryOp _ _ _) _);refine zon ?_;o_new)
 | ((with_reducible show VT _ _ _ _);refine zov ?_ (fun _=>rfl);o_new)
 | ((with_reducible show VA _ _ [] _);exact zfk)
 | ((with_reducible show VA _ _ (_::_) _);refine zeQ ?_ ?_;o_new;o_new)
 | ((with_reducible show VO _ _ _ _);first | exact zi4 | (refine zi9 ?_;o_new))
 | ((with_reducible show VR _ _ _ (eFz _));refine ztR ?_;o_new)
 | ((with_reducible show VR _ _ (.Name _ _) _);exact zdg (pv _))
 | ((with_reducible show VR _ _ (.Constant _ _ _) _);first | exact vri | exact vrb | exact zcm zsv fun _ _=>.str _ | exact zcm pe_none fun _ _=>.none | exact zcm zow fun _ _=>.non)
 | ((with_reducible show VR _ _ (.Name _ _) _);first | exact zcm (zhd rfl ‹Tx _ _›.g_FAR) fun _ _=>.int _| exact zcm (zhd rfl ‹Tx _ _›.g_MOST_LENGTH) fun _ _=>.int _| exact zcm (zhd rfl ‹Tx _ _›.g_MOST_PLACES) fun _ _=>.int _| exact zcm (zhd rfl ‹Tx _ _›.g_MOST_ROADS) fun _ _=>.int _| exact zcm (zhd rfl ‹Tx _ _›.g_MOST_STEPS) fun _ _=>.int _| exact zcm (zhd rfl ‹Tx _ _›.g_MOST_STOPS) fun _ _=>.int _)
 | ((with_reducible show VR _ _ (.UnaryOp _ _ _) _);first | exact zcm zjs fun _ _=>.int _ | (refine zue zrL ?_;o_new))
 | ((with_reducible show VR _ _ (.BinOp _ _ _ _) _);refine zoa ?_ ?_ ?_;(first | exact zjT | exact zrN | exact zrm | exact zsU | exact zrI | exact zsc);o_new;o_new)
 | ((with_reducible show VR _ _ (.Subscript _ (.Slice _ _ _ _) _) _);refine zpr ?_ ?_ ?_;o_new;o_new;o_new)
 | ((with_reducible show VR _ _ (.Subscript _ _ _) _);refine zun ?_ ?_ (fun _ _=>rfl);o_new;o_new)
 | ((with_reducible show VR _ _ (.IfExp _ _ _ _) _);refine ztK ?_ ?_ ?_;o_new;o_new;o_new)
 | ((with_reducible show VR _ _ (.BoolOp _ _ _) _);first | (refine zqI ?_;o_new) | (refine zoM ?_ ?_;o_new;o_new) | (refine zuH ?_ ?_;o_new;o_new))
 | ((with_reducible show VR _ _ (.Compare _ [_] _ _) _);refine zoz ?_ ?_ ?_ (by with_unfolding_all rfl);(first | exact zqU | exact zsI | exact zs7 | exact ov_ge | exact zoT | exact zmv | exact zpe ‹Room _ _›.units | exact zrH ‹Room _ _›.units | exact zq5 ‹Room _ _›.units65 | exact zjA ‹Room _ _›.units65);o_new;o_new)
 | ((with_reducible show VR _ _ (.Compare _ _ _ _) _);refine znl ?_ ?_ ?_ ?_ ?_;(first | exact zm0 | exact zlk);(first | exact zm0 | exact zlk);o_new;o_new;o_new)
 | ((with_reducible show VR _ _ (.Call (.Attribute _ _ _) [] _ _) _);refine zsk ?_ fun h=>zqY PySem.F.plainAttrs_int PySem.F.slot_int_bit_length PySem.F.type_int_bit_length zps h;o_new)
 | ((with_reducible show VR _ _ (.Call (.Attribute _ _ _) _ _ _) _);refine zmi ?_ ?_ fun h h'=>zs8 PySem.F.plainAttrs_list PySem.F.slot_list_append PySem.F.type_list_append zhV h (zdW h' ze4);o_new;o_new)
 | ((with_reducible show VR _ _ (.Call _ _ _ _) _);(first | (refine zez zsd rfl ‹Tx _ _›.n_len PySem.boot_len ?_;o_new) | (refine zez (zpt rfl) rfl ‹Tx _ _›.n_max PyProof.Rows.boot_max ?_;o_new) | (refine zez (zot rfl) rfl ‹Tx _ _›.n_sum PyProof.Rows.boot_sum ?_;o_new) | (refine zez zmJ rfl ‹Tx _ _›.n_sorted PyProof.Rows.boot_sorted ?_;o_new) | (refine ziY zpx rfl ‹Tx _ _›.n_list PyProof.Rows.boot_list ?_;o_new) | (refine ziY zsS rfl ‹Tx _ _›.n_int PyProof.Rows.boot_int ?_;o_new) | refine zhj (by assumption) (by assumption) (by decide) rfl ?_ ?_;(first | exact znQ rfl rfl rfl rfl | exact zkV);o_new))
 | ((with_reducible show VR _ _ (.List _ _) _);(first | refine zg8 ze3 ?_ | refine zg8 zf9 ?_);o_new)
 | ((with_reducible show VR _ _ (.Tuple _ _ _) _);(first | refine zlr ze3 ?_ | refine zlr zf9 ?_);o_new)
)
theorem zm6 (T:Tx K mg):VDef P w K mg base "_law_at" ["_law_script","_law_k"] 1 06 zc9:=by
 have:=sc__law_at.nd
 exact dfo T.d__law_at sc__law_at 002
theorem ziX (T:Tx K mg):VDef P w K mg base "_law_purse" ["_law_script","_law_at_here"] 2 06 zbS:=by
 have:=@zm6 P w _ _ base T
 have:=sc__law_purse.nd
 exact dfo T.d__law_purse sc__law_purse 002
theorem zh2 (T:Tx K mg):VDef P w K mg base "_law_mixed" ["_law_cell","_law_k"] 1 06 zcl:=by
 have:=sc__law_mixed.nd
 exact dfo T.d__law_mixed sc__law_mixed 002
theorem zeW (T:Tx K mg):VDef P w K mg base "_law_draw" ["_law_purse_here","_law_out_of"] 2 086 zak:=by
 have:=@zh2 P w _ _ base T
 have:=sc__law_draw.nd
 exact dfo T.d__law_draw sc__law_draw 002
theorem zhq (T:Tx K mg):VDef P w K mg base "_law_number" ["_law_purse_here","_law_most"] 3 086 zcd:=by
 have:=@zeW P w _ _ base T
 have:=sc__law_number.nd
 exact dfo T.d__law_number sc__law_number 002
theorem zkD (T:Tx K mg):VDef P w K mg base "_law_net" ["_law_purse_here","_law_most","_law_many"] 4 [true,false,false] zck:=by
 have:=@zeW P w _ _ base T
 have:=@zhq P w _ _ base T
 have:=sc__law_net.nd
 exact dfo T.d__law_net sc__law_net (fun _ _ _ _ _ _ _ hr =>(zaj ∅ (zaj (zhk (N':=["_law_k","_law_purse_here"]) (js:=[none,some 0]) (i:=4) sc__law_net.nd rfl 035 (by decide) ∅ rfl T.n_range rfl (by kernel_rfl) (by kernel_rfl) rfl (by decide) (fun _ _ _=>⟨(zbb (zbc (i:=0) (show List.Nodup [("_law_k":Str),("_law_purse_here":Str)] by decide +kernel) rfl 035) (by decide)),zcz,∅⟩)) ∅)))
theorem zg9 (T:Tx K mg):VDef P w K mg base "is_place" ["count","number"] 1 06 zby:=by
 have:=sc_is_place.nd
 exact dfo T.d_is_place sc_is_place 002
theorem zmg (T:Tx K mg):VDef P w K mg base "is_road" ["count","road"] 2 06 zcO:=by
 have:=@zg9 P w _ _ base T
 have:=sc_is_road.nd
 exact dfo T.d_is_road sc_is_road 002
theorem zeR (T:Tx K mg):VDef P w K mg base "check_net" ["net"] 3 [false] zbq:=by
 have:=@zmg P w _ _ base T
 have:=sc_check_net.nd
 exact dfo T.d_check_net sc_check_net (fun _ _ _ _ _ _ _ hr =>(zaj ∅ (zaj 0005 (zaj 0005 (zaP (zjd PassesOwn.leaving rfl rfl T.n_enumerate ∅ ∅ (zaP 0005)))))))
theorem zfm (T:Tx K mg):VDef P w K mg base "check_place" ["net","number"] 2 06 za7:=by
 have:=@zg9 P w _ _ base T
 have:=sc_check_place.nd
 exact dfo T.d_check_place sc_check_place (fun _ _ _ _ _ _ _ hr =>(zaP 0005))
theorem za8 (T:Tx K mg):VDef P w K mg base "check_question" ["net","one","other"] 4 05 zat:=by
 have:=@zeR P w _ _ base T
 have:=@zfm P w _ _ base T
 have:=sc_check_question.nd
 exact dfo T.d_check_question sc_check_question 002
theorem zh5 (T:Tx K mg):VDef P w K mg base "lower_once" ["roads","values","entries"] 1 [false,true,true] zb5:=by
 have:=sc_lower_once.nd
 exact dfo T.d_lower_once sc_lower_once 002
theorem zk8 (T:Tx K mg):VDef P w K mg base "lower" ["net","starts"] 2 06 zb4:=by
 have:=@zh5 P w _ _ base T
 have:=sc_lower.nd
 exact dfo T.d_lower sc_lower (fun _ _ _ _ _ _ _ hr =>(zaj ∅ (zaj ∅ (zaj ∅ (zaj ∅ (zaj (zhu PassesOwn.leaving rfl rfl T.n_range ∅ ∅ (zaj ∅ (zaP (zf2 ∅ (zaP znc) zc3)))) ∅))))))
theorem zcP (T:Tx K mg):VDef P w K mg base "check_taut" ["net"] 3 [false] zaT:=by
 have:=@zk8 P w _ _ base T
 have:=sc_check_taut.nd
 exact dfo T.d_check_taut sc_check_taut (fun _ _ _ _ _ _ _ hr =>(zaj ∅ (zaP 0005)))
theorem zfT (T:Tx K mg):VDef P w K mg base "lower_from" ["net","one"] 3 06 zbw:=by
 have:=@zk8 P w _ _ base T
 have:=sc_lower_from.nd
 exact dfo T.d_lower_from sc_lower_from 002
theorem zdZ (T:Tx K mg):VDef P w K mg base "places_reached" ["net","one"] 1 06 zaU:=by
 have:=sc_places_reached.nd
 exact dfo T.d_places_reached sc_places_reached 002
theorem zdz (T:Tx K mg):VDef P w K mg base "lengths_from" ["net","one"] 4 06 zaM:=by
 have:=@zfT P w _ _ base T
 have:=@zdZ P w _ _ base T
 have:=sc_lengths_from.nd
 exact dfo T.d_lengths_from sc_lengths_from (fun _ _ _ _ _ _ _ hr =>(zaj ∅ (zaj ∅ (zaP (zc7 zaZ (zjp (N':=["place","reached","values"]) (js:=[none,some 4,some 2]) ∅ rfl T.n_range rfl (by kernel_rfl) (by kernel_rfl) rfl (by decide) (fun _ _ _=>⟨(zbb (zbc (i:=0) (show List.Nodup [("place":Str),("reached":Str),("values":Str)] by decide +kernel) rfl 035) (by decide)),zcz,∅⟩)))))))
theorem znt (T:Tx K mg):VDef P w K mg base "window" ["net","one","other"] 5 05 zb8:=by
 have:=@za8 P w _ _ base T
 have:=@zcP P w _ _ base T
 have:=@zdz P w _ _ base T
 have:=sc_window.nd
 exact dfo T.d_window sc_window 002
theorem zfU (T:Tx K mg):VDef P w K mg base "way_length" ["net","way"] 1 06 zbx:=by
 have:=sc_way_length.nd
 exact dfo T.d_way_length sc_way_length (fun _ _ _ _ _ _ _ hr =>(zaj ∅ (zaP (zc7 zaZ (zez (zot rfl) rfl T.n_sum PyProof.Rows.boot_sum (zeQ (ziN true (N':=["number","roads"]) (js:=[none,some 2]) ∅ rfl (by kernel_rfl) (by kernel_rfl) rfl (by decide) (fun _ _ _=>⟨(zbb (zbc (i:=0) (show List.Nodup [("number":Str),("roads":Str)] by decide +kernel) rfl 035) (by decide)),zcz,∅⟩)) zfk))))))
theorem zm9 (T:Tx K mg):VDef P w K mg base "leads" ["net","one","other","way"] 1 01 zcQ:=by
 have:=sc_leads.nd
 exact dfo T.d_leads sc_leads 002
theorem zgq (T:Tx K mg):VDef P w K mg base "length_of" ["net","one","other","way"] 5 01 zbn:=by
 have:=@za8 P w _ _ base T
 have:=@zfU P w _ _ base T
 have:=@zm9 P w _ _ base T
 have:=sc_length_of.nd
 exact dfo T.d_length_of sc_length_of (fun _ _ _ _ _ _ _ hr =>(zaj ∅ (zaj 0005 ∅)))
theorem zgm (T:Tx K mg):VDef P w K mg base "_law_long" ["_law_net_here","_law_one","_law_other","_law_told"] 6 01 zan:=by
 have:=@zgq P w _ _ base T
 have:=sc__law_long.nd
 exact dfo T.d__law_long sc__law_long 002
theorem zhG (T:Tx K mg):VDef P w K mg base "table" ["net"] 5 [false] zbi:=by
 have:=@zeR P w _ _ base T
 have:=@zcP P w _ _ base T
 have:=@zdz P w _ _ base T
 have:=sc_table.nd
 exact dfo T.d_table sc_table (fun _ _ _ _ _ _ _ hr =>(zaj ∅ (zaj ∅ (zaP (zc7 zaZ (zjp (N':=["one","net"]) (js:=[none,some 0]) ∅ rfl T.n_range rfl (by kernel_rfl) (by kernel_rfl) rfl (by decide) (fun _ _ _=>⟨(zbb (zbc (i:=0) (show List.Nodup [("one":Str),("net":Str)] by decide +kernel) rfl 035) (by decide)),zcz,∅⟩)))))))
theorem zfr (T:Tx K mg):VDef P w K mg base "together" ["lengths"] 1 [false] zaJ:=by
 have:=sc_together.nd
 exact dfo T.d_together sc_together 002
theorem zlj (T:Tx K mg):VDef P w K mg base "tight" ["net","one","other"] 6 05 zcw:=by
 have:=@za8 P w _ _ base T
 have:=@zhG P w _ _ base T
 have:=@zfr P w _ _ base T
 have:=sc_tight.nd
 exact dfo T.d_tight sc_tight 002
theorem zoU (T:Tx K mg):VDef P w K mg base "shut" ["net","number"] 1 06 zdi:=by
 have:=sc_shut.nd
 exact dfo T.d_shut sc_shut 002
theorem zix (T:Tx K mg):VDef P w K mg base "detours" ["net","one","other"] 7 05 zbT:=by
 have:=@zlj P w _ _ base T
 have:=@zdz P w _ _ base T
 have:=@zoU P w _ _ base T
 have:=sc_detours.nd
 exact dfo T.d_detours sc_detours 002
theorem zk2 (T:Tx K mg):VDef P w K mg base "way_back" ["net","entries","one","other"] 1 01 zcA:=by
 have:=sc_way_back.nd
 exact dfo T.d_way_back sc_way_back (fun _ _ _ _ _ _ _ hr =>(zaj ∅ (zaj ∅ (zaj ∅ (zaP (zc7 zdh (zol ∅ zjs (fun _ _=>⟨_,by with_unfolding_all rfl⟩))))))))
theorem zfL (T:Tx K mg):VDef P w K mg base "least_in" ["net","one","other"] 4 05 zaB:=by
 have:=@zdZ P w _ _ base T
 have:=@zfT P w _ _ base T
 have:=@zk2 P w _ _ base T
 have:=sc_least_in.nd
 exact dfo T.d_least_in sc_least_in 002
theorem zp7 (T:Tx K mg):VDef P w K mg base "least" ["net","one","other"] 5 05 zbB:=by
 have:=@za8 P w _ _ base T
 have:=@zcP P w _ _ base T
 have:=@zfL P w _ _ base T
 have:=sc_least.nd
 exact dfo T.d_least sc_least 002
theorem zih (T:Tx K mg):VDef P w K mg base "check_road" ["net","number"] 1 06 zcc:=by
 have:=sc_check_road.nd
 exact dfo T.d_check_road sc_check_road (fun _ _ _ _ _ _ _ hr =>(zaP 0005))
theorem zcX (T:Tx K mg):VDef P w K mg base "check_road_question" ["net","one","other","number"] 5 01 zaF:=by
 have:=@za8 P w _ _ base T
 have:=@zih P w _ _ base T
 have:=@zcP P w _ _ base T
 have:=sc_check_road_question.nd
 exact dfo T.d_check_road_question sc_check_road_question 002
theorem v_by (T:Tx K mg):VDef P w K mg base "by" ["net","one","other","number"] 6 01 zcC:=by
 have:=@zcX P w _ _ base T
 have:=@zfL P w _ _ base T
 have:=@zfU P w _ _ base T
 have:=sc_by.nd
 exact dfo T.d_by sc_by 002
theorem ziS (T:Tx K mg):VDef P w K mg base "without" ["net","one","other","number"] 6 01 zaS:=by
 have:=@zcX P w _ _ base T
 have:=@zfL P w _ _ base T
 have:=@zoU P w _ _ base T
 have:=sc_without.nd
 exact dfo T.d_without sc_without (fun _ _ _ _ _ _ _ hr =>(zaj ∅ (zaj ∅ (zaj ∅ (zaj (zjf true (N':=["at","number"]) (js:=[none,some 3]) (i:=5) sc_without.nd rfl 035 (by decide) ∅ rfl (by kernel_rfl) (by kernel_rfl) rfl (by decide) (fun _ _ _=>⟨(zbb (zbc (i:=0) (show List.Nodup [("at":Str),("number":Str)] by decide +kernel) rfl 035) (by decide)),zcz,∅⟩)) (zaP (zc7 zdh (zlr zlf ∅))))))))
theorem ziI (T:Tx K mg):VDef P w K mg base "_law_mores" ["_law_net_here","_law_one","_law_other","_law_due","_law_told"] 7 [false,false,false,false,false] zc4:=by
 have:=@zgm P w _ _ base T
 have:=@ziS P w _ _ base T
 have:=sc__law_mores.nd
 exact dfo T.d__law_mores sc__law_mores 002
theorem zfn (T:Tx K mg):VDef P w K mg base "_law_lesser" ["_law_some"] 1 [false] za1:=by
 have:=sc__law_lesser.nd
 exact dfo T.d__law_lesser sc__law_lesser (fun _ _ _ _ _ _ _ hr =>(zaj (zjf true (N':=["_law_one"]) (js:=[none]) (i:=0) sc__law_lesser.nd rfl 035 (by decide) ∅ rfl (by kernel_rfl) (by kernel_rfl) rfl (by decide) (fun _ _ _=>⟨(zbb (zbc (i:=0) (show List.Nodup [("_law_one":Str)] by decide +kernel) rfl 035) (by decide)),zmd ∅,∅⟩)) (zaj ∅ (zaP (zc7 zdh (zez (zqW rfl) rfl T.n_min PyProof.Rows.boot_min ∅))))))
theorem zns (T:Tx K mg):VDef P w K mg base "needed" ["net","one","other"] 8 05 zc8:=by
 have:=@zix P w _ _ base T
 have:=sc_needed.nd
 exact dfo T.d_needed sc_needed (fun _ _ _ _ _ _ _ hr =>(zaP (zc7 zaZ (ziN false (N':=["number","more"]) (js:=[none,none]) ∅ rfl (by kernel_rfl) (by kernel_rfl) rfl (by decide) (fun _ _ _=>⟨(zg2 rfl (zcx (zbb (zbc (i:=0) (show List.Nodup [("number":Str),("more":Str)] by decide +kernel) rfl 035) (by decide)) (zcx (zbb (zbc (i:=1) (show List.Nodup [("number":Str),("more":Str)] by decide +kernel) rfl 035) (by decide)) zfG)) 2 (za0 (za0 (fun _ _ _=>zdj)))),zcz,∅⟩)))))
theorem znj (T:Tx K mg):VDef P w K mg base "is_way" ["net","one","other","way"] 5 01 zbI:=by
 have:=@za8 P w _ _ base T
 have:=@zm9 P w _ _ base T
 have:=sc_is_way.nd
 exact dfo T.d_is_way sc_is_way 002
theorem zfS (T:Tx K mg):VDef P w K mg base "_law_first" ["_law_told"] 1 [false] zaX:=by
 have:=sc__law_first.nd
 exact dfo T.d__law_first sc__law_first 002
theorem ziP (T:Tx K mg):VDef P w K mg base "_law_roads" ["_law_net_here","_law_one","_law_other"] 9 05 zcp:=by
 have:=@zgm P w _ _ base T
 have:=@zix P w _ _ base T
 have:=@zp7 P w _ _ base T
 have:=@v_by P w _ _ base T
 have:=@ziI P w _ _ base T
 have:=@ziS P w _ _ base T
 have:=@zfn P w _ _ base T
 have:=@zlj P w _ _ base T
 have:=@zns P w _ _ base T
 have:=@znj P w _ _ base T
 have:=@zfS P w _ _ base T
 have:=sc__law_roads.nd
 exact dfo T.d__law_roads sc__law_roads (fun _ _ _ _ _ _ _ hr =>(zaj ∅ (zaj ∅ (zaj ∅ (zaj ∅ (zaj ∅ (zaj ∅ (zaP (zc7 zaZ (zoM (zoz (zpe hr.units) (ziN true (N':=["_law_row"]) (js:=[none]) ∅ rfl (by kernel_rfl) (by kernel_rfl) rfl (by decide) (fun _ _ _=>⟨(zbb (zbc (i:=0) (show List.Nodup [("_law_row":Str)] by decide +kernel) rfl 035) (by decide)),zcz,∅⟩)) ∅ (zr9 _)) ∅))))))))))
theorem zgz (T:Tx K mg):VDef P w K mg base "one_road_more" ["roads","lengths"] 2 06 zbv:=by
 have:=@zfr P w _ _ base T
 have:=sc_one_road_more.nd
 exact dfo T.d_one_road_more sc_one_road_more 002
theorem zgW (T:Tx K mg):VDef P w K mg base "way_of_steps" ["roads","steps","other"] 1 05 zbN:=by
 have:=sc_way_of_steps.nd
 exact dfo T.d_way_of_steps sc_way_of_steps (fun _ _ _ _ _ _ _ hr =>(zaj ∅ (zaj ∅ (zaj (zpo PassesOwn.leaving rfl rfl T.n_reversed ∅ ∅ ∅) (zaP (zc7 zdh (zol ∅ zjs (fun _ _=>⟨_,by with_unfolding_all rfl⟩))))))))
theorem zmX (T:Tx K mg):VDef P w K mg base "counted" ["net","one","other","k"] 5 01 zas:=by
 have:=@za8 P w _ _ base T
 have:=@zcP P w _ _ base T
 have:=@zgz P w _ _ base T
 have:=@zgW P w _ _ base T
 have:=sc_counted.nd
 exact dfo T.d_counted sc_counted (fun _ _ _ _ _ _ _ hr =>(zaj ∅ (zaj 0005 (zaj ∅ (zaj ∅ (zaj (zhk (N':=["place","one"]) (js:=[none,some 1]) (i:=6) sc_counted.nd rfl 035 (by decide) ∅ rfl T.n_range rfl (by kernel_rfl) (by kernel_rfl) rfl (by decide) (fun _ _ _=>⟨(zbb (zbc (i:=0) (show List.Nodup [("place":Str),("one":Str)] by decide +kernel) rfl 035) (by decide)),zcz,∅⟩)) ∅))))))
theorem zhM (T:Tx K mg):VDef P w K mg base "_law_counts" ["_law_net_here","_law_one","_law_other","_law_third"] 6 01 zca:=by
 have:=@zhG P w _ _ base T
 have:=@zfS P w _ _ base T
 have:=@zfn P w _ _ base T
 have:=@zmX P w _ _ base T
 have:=@zgq P w _ _ base T
 have:=sc__law_counts.nd
 exact dfo T.d__law_counts sc__law_counts (fun _ _ _ _ _ _ _ hr =>(zaj ∅ (zaj (zhk (N':=["_law_k","_law_net_here","_law_one","_law_other"]) (js:=0016) (i:=5) sc__law_counts.nd rfl 035 (by decide) ∅ rfl T.n_range rfl (by kernel_rfl) (by kernel_rfl) rfl (by decide) (fun _ _ _=>⟨(zbb (zbc (i:=0) (show List.Nodup [("_law_k":Str),("_law_net_here":Str),("_law_one":Str),("_law_other":Str)] by decide +kernel) rfl 035) (by decide)),zcz,∅⟩)) ∅)))
theorem zkY (T:Tx K mg):VDef P w K mg base "_law_sum" ["_law_some"] 1 [false] zaJ:=by
 have:=sc__law_sum.nd
 exact dfo T.d__law_sum sc__law_sum 002
theorem zgy (T:Tx K mg):VDef P w K mg base "table_for" ["net","stops"] 6 06 zco:=by
 have:=@zeR P w _ _ base T
 have:=@zhG P w _ _ base T
 have:=@zfm P w _ _ base T
 have:=sc_table_for.nd
 exact dfo T.d_table_for sc_table_for (fun _ _ _ _ _ _ _ hr =>(zaj ∅ (zaj ∅ (zaj 0005 ∅))))
theorem zd3 (T:Tx K mg):VDef P w K mg base "length_through" ["rows","stops"] 2 06 zbs:=by
 have c_together:=@zfr P w _ _ base T
 have:=sc_length_through.nd
 exact dfo T.d_length_through sc_length_through (fun _ _ _ _ _ _ _ hr =>(zaP (zc7 zaZ (zhj c_together hr (by decide) rfl (znQ rfl rfl rfl rfl) (zeQ (zom (N':=["one","other","rows"]) (js:=[none,none,some 0]) ∅ rfl T.n_zip rfl (by kernel_rfl) (by kernel_rfl) rfl (by decide) (fun _ _ _=>⟨(zg2 rfl (zcx (zbb (zbc (i:=0) (show List.Nodup [("one":Str),("other":Str),("rows":Str)] by decide +kernel) rfl 035) (by decide)) (zcx (zbb (zbc (i:=1) (show List.Nodup [("one":Str),("other":Str),("rows":Str)] by decide +kernel) rfl 035) (by decide)) zfG)) 2 (za0 (za0 (fun _ _ _=>zdj)))),zcz,∅⟩)) zfk)))))
theorem znR (T:Tx K mg):∀m:Nat,VDef P w K mg base "orders" ["stops"] (1+m) [false] (za3 m):=by
 intro m
 induction m with
 | zero=>exact zlG (k:=0) (S:=sBad) (n:=5) T.d_orders (fun _ _ _ _ _ _ us hl=>by obtain ⟨_,rfl⟩:=ln1 hl;rfl) sc_orders rfl rfl (by decide) (fun f cdv A outer s H E hr=>zo8)
 | succ m c_orders=>exact zlG (k:=1+m) (S:=zdV (za3 m)) (n:=5) T.d_orders (fun _ _ _ _ _ _ us hl=>by obtain ⟨_,rfl⟩:=ln1 hl;rfl) sc_orders rfl rfl (by decide) (fun f cdv A outer s H E hr=>
   (zaj (zf2 (zon (zov (zdg (pv 0)) (fun _=>rfl))) (zaP (zc7 zdh (zg8 zf9 (zeQ (zg8 zf9 zfk) zfk)))) zc3)
   (zaj (zjV (i:=1) zaZ sc_orders.nd rfl 035 (by decide) (zg8 ze3 zfk))
   (zaj (zjd PassesOwn.leaving rfl rfl T.n_enumerate (zdg (pv 0)) (zg2 rfl (zcx (zbb (zbc (i:=2) sc_orders.nd rfl 035) (by decide)) (zcx (zbb (zbc (i:=3) sc_orders.nd rfl 035) (by decide)) zfG)) 2 (za0 (za0 (fun _ _ _=>zdj))))
   (zaP (zlw PassesOwn.leaving rfl (zhj c_orders hr (by omega) rfl (znQ rfl rfl rfl rfl) (zeQ (zoa zjT (zpr (zdg (pv 0)) zi4 (zi9 (zdg (pv 2)))) (zpr (zdg (pv 0)) (zi9 (zoa zjT (zdg (pv 2)) vri)) zi4)) zfk)) (zbb (zbc (i:=4) sc_orders.nd rfl 035) (by decide))
   (zaP (zlF (zmi (zdg (pv 1)) (zoa zjT (zg8 ze3 (zeQ (zdg (pv 3)) zfk)) (zdg (pv 4))) fun h h'=>zs8 PySem.F.plainAttrs_list PySem.F.slot_list_append PySem.F.type_list_append zhV h (zdW h' ze4)))))))
   (zaP (zc7 zdh (zdg (pv 1))))))))
theorem zfY (T:Tx K mg):VDef P w K mg base "orders_between" ["stops"] 8 [false] za5:=by
 have c_orders:=znR (P:=P) (w:=w) (base:=base) T 6
 have:=sc_orders_between.nd
 exact dfo T.d_orders_between sc_orders_between (fun _ _ _ _ _ _ _ hr =>(zaP (zc7 zaZ (ziN false (N':=["middle","stops"]) (js:=[none,some 0]) ∅ rfl (by kernel_rfl) (by kernel_rfl) rfl (by decide) (fun _ _ _=>⟨(zbb (zbc (i:=0) (show List.Nodup [("middle":Str),("stops":Str)] by decide +kernel) rfl 035) (by decide)),zcz,∅⟩)))))
theorem ziB (T:Tx K mg):VDef P w K mg base "best_order" ["net","stops"] 9 06 zbj:=by
 have:=@zgy P w _ _ base T
 have:=@zd3 P w _ _ base T
 have:=@zfY P w _ _ base T
 have:=sc_best_order.nd
 exact dfo T.d_best_order sc_best_order (fun _ _ _ _ _ _ _ hr =>(zaj ∅ (zaj (zjf false (N':=["order","rows"]) (js:=[none,some 2]) (i:=3) sc_best_order.nd rfl 035 (by decide) ∅ rfl (by kernel_rfl) (by kernel_rfl) rfl (by decide) (fun _ _ _=>⟨(zbb (zbc (i:=0) (show List.Nodup [("order":Str),("rows":Str)] by decide +kernel) rfl 035) (by decide)),zcz,∅⟩)) (zaP (zc7 zaZ (zpB rfl T.n_min rfl hr.units (ziN true (N':=["length","order"]) (js:=[none,none]) ∅ rfl (by kernel_rfl) (by kernel_rfl) rfl (by decide) (fun _ _ _=>⟨(zg2 rfl (zcx (zbb (zbc (i:=0) (show List.Nodup [("length":Str),("order":Str)] by decide +kernel) rfl 035) (by decide)) (zcx (zbb (zbc (i:=1) (show List.Nodup [("length":Str),("order":Str)] by decide +kernel) rfl 035) (by decide)) zfG)) 2 (za0 (za0 (fun _ _ _=>zdj)))),zmd ∅,∅⟩))))))))
theorem zmu (T:Tx K mg):VDef P w K mg base "through" ["net","stops"] 7 06 zbU:=by
 have:=@zd3 P w _ _ base T
 have:=@zgy P w _ _ base T
 have:=sc_through.nd
 exact dfo T.d_through sc_through 002
theorem zil (T:Tx K mg):VDef P w K mg base "_law_stops" ["_law_net_here","_law_stops_here"] 10 06 zbo:=by
 have:=@zhG P w _ _ base T
 have c__law_sum:=@zkY P w _ _ base T
 have:=@ziB P w _ _ base T
 have:=@zmu P w _ _ base T
 have:=sc__law_stops.nd
 exact dfo T.d__law_stops sc__law_stops (fun _ _ _ _ _ _ _ hr =>(zaj ∅ (zaj (zjV (i:=3) zaZ sc__law_stops.nd rfl 035 (by decide) (zhj c__law_sum hr (by decide) rfl (znQ rfl rfl rfl rfl) (zeQ (zom (N':=["_law_one","_law_other","_law_rows"]) (js:=[none,none,some 2]) ∅ rfl T.n_zip rfl (by kernel_rfl) (by kernel_rfl) rfl (by decide) (fun _ _ _=>⟨(zg2 rfl (zcx (zbb (zbc (i:=0) (show List.Nodup [("_law_one":Str),("_law_other":Str),("_law_rows":Str)] by decide +kernel) rfl 035) (by decide)) (zcx (zbb (zbc (i:=1) (show List.Nodup [("_law_one":Str),("_law_other":Str),("_law_rows":Str)] by decide +kernel) rfl 035) (by decide)) zfG)) 2 (za0 (za0 (fun _ _ _=>zdj)))),zcz,∅⟩)) zfk))) ∅)))
theorem zs6 (T:Tx K mg):zkl P w K mg base "law" ["_law_script"] 11 (zjD K):=by
 have:=@ziX P w _ _ base T
 have:=@zkD P w _ _ base T
 have:=@znt P w _ _ base T
 have:=@zeW P w _ _ base T
 have:=@ziP P w _ _ base T
 have:=@zhM P w _ _ base T
 have:=@zil P w _ _ base T
 have:=sc_law.nd
 exact zr0 (S:=zfw) (n:=12) T.d_law (by o_new) sc_law rfl (by decide) (fun _ _ _ _ _ _ _ hr =>(zaj (zhu PassesOwn.never rfl rfl T.n_range vri ∅ (zaj ∅ (zaj ∅ (zaj ∅ (zaj (zoC zaZ (zjp (N':=["_law_k","_law_purse_here","_law_count"]) (js:=[none,some 2,some 3]) vri rfl T.n_range rfl (by kernel_rfl) (by kernel_rfl) rfl (by decide) (fun _ _ _=>⟨(zbb (zbc (i:=0) (show List.Nodup [("_law_k":Str),("_law_purse_here":Str),("_law_count":Str)] by decide +kernel) rfl 035) (by decide)),zcz,∅⟩)) (zp8 rfl ∅ 4 (za0 (za0 (za0 (za0 (fun _ _ _=>zdj))))))) ∅))))) ∅)) zhA
theorem zrd {K:PySem.W.Frag} {h:Heap} {mg:Str->Option Value} (X:K.In h) (G:h.Ns mainGlobals mg) (e:oo PySem.Challenge.pw_tautroads_k45_whole_by_without_and_count K=dd PySem.Challenge.pw_tautroads_k45_whole_by_without_and_count):Tx K mg:=by
 obtain ⟨e1,e⟩:=Prod.mk.inj e;obtain ⟨e2,e⟩:=Prod.mk.inj e;obtain ⟨e3,e4⟩:=Prod.mk.inj e;exact {
  d__law_at:=L2.zaE X G rfl (L2.zau e1 0 (a:=(top 59)) rfl)
  d__law_purse:=L2.zaE X G rfl (L2.zau e1 1 (a:=(top 61)) rfl)
  d__law_mixed:=L2.zaE X G rfl (L2.zau e1 2 (a:=(top 60)) rfl)
  d__law_draw:=L2.zaE X G rfl (L2.zau e1 3 (a:=(top 62)) rfl)
  d__law_number:=L2.zaE X G rfl (L2.zau e1 4 (a:=(top 63)) rfl)
  d__law_net:=L2.zaE X G rfl (L2.zau e1 5 (a:=(top 64)) rfl)
  d_is_place:=L2.zaE X G rfl (L2.zau e1 6 (a:=(top 12)) rfl)
  d_is_road:=L2.zaE X G rfl (L2.zau e1 7 (a:=(top 13)) rfl)
  d_check_net:=L2.zaE X G rfl (L2.zau e1 8 (a:=(top 14)) rfl)
  d_check_place:=L2.zaE X G rfl (L2.zau e1 9 (a:=(top 15)) rfl)
  d_check_question:=L2.zaE X G rfl (L2.zau e1 10 (a:=(top 17)) rfl)
  d_lower_once:=L2.zaE X G rfl (L2.zau e1 11 (a:=(top 23)) rfl)
  d_lower:=L2.zaE X G rfl (L2.zau e1 12 (a:=(top 24)) rfl)
  d_check_taut:=L2.zaE X G rfl (L2.zau e1 13 (a:=(top 26)) rfl)
  d_lower_from:=L2.zaE X G rfl (L2.zau e1 14 (a:=(top 30)) rfl)
  d_places_reached:=L2.zaE X G rfl (L2.zau e1 15 (a:=(top 29)) rfl)
  d_lengths_from:=L2.zaE X G rfl (L2.zau e1 16 (a:=(top 35)) rfl)
  d_window:=L2.zaE X G rfl (L2.zau e1 17 (a:=(top 37)) rfl)
  d_way_length:=L2.zaE X G rfl (L2.zau e1 18 (a:=(top 19)) rfl)
  d_leads:=L2.zaE X G rfl (L2.zau e1 19 (a:=(top 18)) rfl)
  d_length_of:=L2.zaE X G rfl (L2.zau e1 20 (a:=(top 21)) rfl)
  d__law_long:=L2.zaE X G rfl (L2.zau e1 21 (a:=(top 66)) rfl)
  d_table:=L2.zaE X G rfl (L2.zau e1 22 (a:=(top 36)) rfl)
  d_together:=L2.zaE X G rfl (L2.zau e1 23 (a:=(top 34)) rfl)
  d_tight:=L2.zaE X G rfl (L2.zau e1 24 (a:=(top 43)) rfl)
  d_shut:=L2.zaE X G rfl (L2.zau e1 25 (a:=(top 40)) rfl)
  d_detours:=L2.zaE X G rfl (L2.zau e1 26 (a:=(top 44)) rfl)
  d_way_back:=L2.zaE X G rfl (L2.zau e1 27 (a:=(top 25)) rfl)
  d_least_in:=L2.zaE X G rfl (L2.zau e1 28 (a:=(top 31)) rfl)
  d_least:=L2.zaE X G rfl (L2.zau e1 29 (a:=(top 32)) rfl)
  d_check_road:=L2.zaE X G rfl (L2.zau e1 30 (a:=(top 16)) rfl)
  d_check_road_question:=L2.zaE X G rfl (L2.zau e1 31 (a:=(top 39)) rfl)
  d_by:=L2.zaE X G rfl (L2.zau e1 32 (a:=(top 41)) rfl)
  d_without:=L2.zaE X G rfl (L2.zau e1 33 (a:=(top 42)) rfl)
  d__law_mores:=L2.zaE X G rfl (L2.zau e1 34 (a:=(top 69)) rfl)
  d__law_lesser:=L2.zaE X G rfl (L2.zau e1 35 (a:=(top 67)) rfl)
  d_needed:=L2.zaE X G rfl (L2.zau e1 36 (a:=(top 45)) rfl)
  d_is_way:=L2.zaE X G rfl (L2.zau e1 37 (a:=(top 20)) rfl)
  d__law_first:=L2.zaE X G rfl (L2.zau e1 38 (a:=(top 65)) rfl)
  d__law_roads:=L2.zaE X G rfl (L2.zau e1 39 (a:=(top 68)) rfl)
  d_one_road_more:=L2.zaE X G rfl (L2.zau e1 40 (a:=(top 49)) rfl)
  d_way_of_steps:=L2.zaE X G rfl (L2.zau e1 41 (a:=(top 50)) rfl)
  d_counted:=L2.zaE X G rfl (L2.zau e1 42 (a:=(top 51)) rfl)
  d__law_counts:=L2.zaE X G rfl (L2.zau e1 43 (a:=(top 70)) rfl)
  d__law_sum:=L2.zaE X G rfl (L2.zau e1 44 (a:=(top 71)) rfl)
  d_table_for:=L2.zaE X G rfl (L2.zau e1 45 (a:=(top 52)) rfl)
  d_length_through:=L2.zaE X G rfl (L2.zau e1 46 (a:=(top 53)) rfl)
  d_orders:=L2.zaE X G rfl (L2.zau e1 47 (a:=(top 55)) rfl)
  d_orders_between:=L2.zaE X G rfl (L2.zau e1 48 (a:=(top 56)) rfl)
  d_best_order:=L2.zaE X G rfl (L2.zau e1 49 (a:=(top 57)) rfl)
  d_through:=L2.zaE X G rfl (L2.zau e1 50 (a:=(top 54)) rfl)
  d__law_stops:=L2.zaE X G rfl (L2.zau e1 51 (a:=(top 72)) rfl)
  d_law:=L2.zaE X G rfl (L2.zau e1 52 (a:=(top 73)) rfl)
  n_enumerate:=L2.zeu X G (L2.zau e2 0 rfl)
  n_int:=L2.zeu X G (L2.zau e2 1 rfl)
  n_len:=L2.zeu X G (L2.zau e2 2 rfl)
  n_list:=L2.zeu X G (L2.zau e2 3 rfl)
  n_max:=L2.zeu X G (L2.zau e2 4 rfl)
  n_min:=L2.zeu X G (L2.zau e2 5 rfl)
  n_range:=L2.zeu X G (L2.zau e2 6 rfl)
  n_reversed:=L2.zeu X G (L2.zau e2 7 rfl)
  n_sorted:=L2.zeu X G (L2.zau e2 8 rfl)
  n_sum:=L2.zeu X G (L2.zau e2 9 rfl)
  n_zip:=L2.zeu X G (L2.zau e2 10 rfl)
  g_FAR:=L2.zfq X G (L2.zdf e3 0 rfl rfl)
  g_MOST_LENGTH:=L2.zfq X G (L2.zdf e3 1 rfl rfl)
  g_MOST_PLACES:=L2.zfq X G (L2.zdf e3 2 rfl rfl)
  g_MOST_ROADS:=L2.zfq X G (L2.zdf e3 3 rfl rfl)
  g_MOST_STEPS:=L2.zfq X G (L2.zdf e3 4 rfl rfl)
  g_MOST_STOPS:=L2.zfq X G (L2.zdf e3 5 rfl rfl)
  }
end My
end
open PySem PySem.W PyProof.Rows
set_option maxRecDepth 100000 in
set_option maxHeartbeats 0 in
theorem PySem.Challenge.cw_tautroads_k45_whole_by_without_and_count_holds : PySem.Challenge.rw_tautroads_k45_whole_by_without_and_count.Holds := by
 w_on;o_law
 refine holds_open (d:=⟨"law",L2.zdF (My.top 73),L2.zcg (My.top 73),L2.zae (My.top 73),L2.zrh (My.top 73)⟩) (kwd:=[]) (q:=My.QQ PySem.Challenge.pw_tautroads_k45_whole_by_without_and_count) (Xt:=My.Xt PySem.Challenge.pw_tautroads_k45_whole_by_without_and_count) (XP:=XL (My.QQ PySem.Challenge.pw_tautroads_k45_whole_by_without_and_count) My.lv)
  My.left (L2.zgh (My.oo PySem.Challenge.pw_tautroads_k45_whole_by_without_and_count) (My.dd PySem.Challenge.pw_tautroads_k45_whole_by_without_and_count)).of (L2.zgh (My.oo PySem.Challenge.pw_tautroads_k45_whole_by_without_and_count) (My.dd PySem.Challenge.pw_tautroads_k45_whole_by_without_and_count)).keeps (fun s e=>xl_of s (Bool.and_eq_true_iff.mp e).1) XL.keeps (by kernel_rfl) (by kernel_rfl) (by kernel_rfl) (fun s e=>recFacts_of (Bool.and_eq_true_iff.mp e).2) (by kernel_rfl) (by assumption) (by first | k_qdec | decide +kernel) ⟨rfl,rfl,rfl,rfl,rfl,by decide +kernel⟩ ?hw ?hc
 case hw=>w_witness2
 case hc=>
  refine L2.zn3 (l:=PySem.Challenge.rw_tautroads_k45_whole_by_without_and_count) (n:=63) (k:=11) (x:="_law_script") (CX:=L2.CX0) (sp:=L2.zjD) rfl (by decide) rfl ⟨rfl,by decide,by decide⟩ ?F ?S ?C
  case F=>
   intro w K mg fa h KX G e hmg
   have T:My.Tx K mg:=My.zrd KX G e
   exact L2.zuY T.d_law (fun _ _ _ _ _ _ _=>rfl) (fun base=>My.zs6 (base:=base) T) hmg
  case S=>exact fun K H a ns hl hO hS=>L2.zpg hl hO hS
  case C=>exact fun _ _ _ _ z=>z


