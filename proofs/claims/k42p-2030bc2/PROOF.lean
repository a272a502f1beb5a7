import PyProof.Rows.All
import Wide.All
import OpenK.AllK
import Wide.FinOn
import Lean
import PyProof.EqAt
import PyProof.EqKinds
import PyProof.TupleCall
import PySem.Challenge.RW_tautroads_k42_whole_the_other_way_about
set_option genSizeOf false
set_option genInjectivity false
set_option Elab.async false
set_option compiler.extract_closed false
set_option bootstrap.genMatcherCode false
set_option linter.all false
set_option maxRecDepth 100000
noncomputable section
local macro_rules|`(⇑$x)=>`(.d (.int $x))
local macro_rules|`(∅)=>`(by omega)
theorem nlq {n m:Nat}(h:Nat.ble n m=true):n ≤ m:=Nat.le_of_ble_eq_true h
namespace L2
open PySem PySem.Spec PyProof.Rows
abbrev Key:=Sum Int Str
def zrX:Key->Value->Bool
 | .inl k,v=>Value.isInt k v
 | .inr x,v=>Value.isStrOf x v
def keyH (w:World):Key->Int
 | .inl k=>hashInt k
 | .inr x=>hashStr w x
theorem zbK:∀{k:Key} {v:Value},zrX k v=true->(∃i t,k=Sum.inl i/\v=Value.int i t)\/(∃x t,k=Sum.inr x/\v=Value.str x t)
 | .inl i,v,h=>by
  obtain ⟨t,e⟩:=Value.isInt_shape (k:=i) (v:=v) h;exact .inl ⟨i,t,rfl,e⟩
 | .inr x,v,h=>by
  obtain ⟨t,e⟩:=Value.isStrOf_shape (x:=x) (v:=v) h;exact .inr ⟨x,t,rfl,e⟩
theorem zq5 (a b:Int):decide ((Sum.inl a:Key)=Sum.inl b)=(a==b):=by
 by_cases e:a=b
 .subst e;simp
 .have h:¬(Sum.inl a:Key)=Sum.inl b:=fun q=>e (Sum.inl.inj q)
  rw[decide_eq_false h];exact (beq_eq_false_iff_ne.mpr e).symm
theorem zp0 (a b:Str):decide ((Sum.inr a:Key)=Sum.inr b)=decide (a=b):=by
 by_cases e:a=b
 .subst e;simp
 .have h:¬(Sum.inr a:Key)=Sum.inr b:=fun q=>e (Sum.inr.inj q)
  rw[decide_eq_false h,decide_eq_false e]
theorem zq6 (a:Int) (b:Str):decide ((Sum.inl a:Key)=Sum.inr b)=false:=decide_eq_false (fun q=>nomatch q)
theorem zqW (a:Str) (b:Int):decide ((Sum.inr a:Key)=Sum.inl b)=false:=decide_eq_false (fun q=>nomatch q)
def ziw (prog:Program) (w:World):PySem.KeyKind prog w Key where
 is:=zrX
 hash:=keyH w
 inj:=fun v a b ha hb=>by
  rcases zbK ha with ⟨i,t,rfl,rfl⟩ | ⟨x,t,rfl,rfl⟩
  .rcases zbK hb with ⟨j,u,rfl,e⟩ | ⟨y,u,rfl,e⟩
   .injection e with e1 _;rw[e1]
   .exact nomatch e
  .rcases zbK hb with ⟨j,u,rfl,e⟩ | ⟨y,u,rfl,e⟩
   .exact nomatch e
   .injection e with e1 _;rw[e1]
 byValue:=fun k v h=>by
  rcases zbK h with ⟨i,t,rfl,rfl⟩ | ⟨x,t,rfl,rfl⟩<;>rfl
 pyHash:=fun hv h=>by
  rcases zbK hv with ⟨i,t,rfl,rfl⟩ | ⟨x,t,rfl,rfl⟩
  .exact wpAny_pyHash_int h
  .exact wpAny_pyHash_str h
 eqBool:=fun hu hv h=>by
  rcases zbK hu with ⟨i,t,rfl,rfl⟩ | ⟨x,t,rfl,rfl⟩
  .rcases zbK hv with ⟨j,u,rfl,rfl⟩ | ⟨y,u,rfl,rfl⟩
   .rw[zq5] at h;exact wpAny_eqBool_int h
   .rw[zq6] at h;exact SeqAt.EqAt.int_str i t y u _ _ _ _ h
  .rcases zbK hv with ⟨j,u,rfl,rfl⟩ | ⟨y,u,rfl,rfl⟩
   .rw[zqW] at h;exact SeqAt.EqAt.str_int x t j u _ _ _ _ h
   .rw[zp0] at h;exact wpAny_eqBool_str h
 «strs»:=fun k x t v h=>by
  rcases zbK h with ⟨i,u,rfl,e⟩ | ⟨y,u,rfl,e⟩
  .exact nomatch e
  .injection e with e1 _
   subst e1
   cases v<;>rfl
inductive V where
 | non | bl (b:Bool) | int (i:Int) | str (x:Str) | byt (b:Array UInt8) | flt (b:UInt64) | ref (a:Addr) | ty (n:String)
 deriving DecidableEq
def RelV:V->Value->Prop
 | .non,u=>u=Value.none
 | .bl b,u=>u=Value.bool b
 | .int i,u=>∃t,u=Value.int i t
 | .str x,u=>∃t,u=Value.str x t
 | .byt b,u=>∃t,u=Value.bytes b t
 | .flt b,u=>∃t,u=Value.float b t
 | .ref a,u=>u=Value.ref a
 | .ty n,u=>u=Value.type n
abbrev Vals:List V->List Value->Prop:=Paired RelV
theorem Vals.length {xs:List V} {us:List Value} (r:Vals xs us):xs.length=us.length:=Paired.length r
theorem Vals.get:∀{xs:List V} {us:List Value} {i:Nat} {x:V},Vals xs us->xs[i]? = some x->∃u,us[i]? = some u/\RelV x u
 | _,_,_,_,.nil,e=>by simp at e
 | _,_,0,_,.cons r _,e=>by simp at e;subst e;exact ⟨_,rfl,r⟩
 | _,_,i+1,x,.cons _ t,e=>by
  obtain ⟨u,h1,h2⟩:=Vals.get (i:=i) (x:=x) t (by simpa using e);exact ⟨u,by simpa using h1,h2⟩
theorem Vals.set {x:V} {u:Value} (r:RelV x u):∀{xs:List V} {us:List Value} (i:Nat),Vals xs us->Vals (xs.set i x) (us.set i u)
 | _,_,_,.nil=>.nil
 | _,_,0,.cons _ t=>.cons r t
 | _,_,i+1,.cons q t=>.cons q (Vals.set r i t)
theorem Vals.append:∀{xs ys:List V} {us ws:List Value},Vals xs us->Vals ys ws->Vals (xs++ys) (us++ws)
 | _,_,_,_,.nil,s=>s
 | _,_,_,_,.cons r t,s=>.cons r (Vals.append t s)
theorem Vals.take:∀{xs:List V} {us:List Value} (n:Nat),Vals xs us->Vals (xs.take n) (us.take n)
 | _,_,0,_=>.nil
 | _,_,_+1,.nil=>.nil
 | _,_,n+1,.cons r t=>.cons r (Vals.take n t)
theorem Vals.drop:∀{xs:List V} {us:List Value} (n:Nat),Vals xs us->Vals (xs.drop n) (us.drop n)
 | _,_,0,r=>r
 | _,_,_+1,.nil=>.nil
 | _,_,n+1,.cons _ t=>Vals.drop n t
def RelO:Option V->Option Value->Prop
 | some v,some u=>RelV v u
 | none,none=>True
 | _,_=>False
def KV {κ:Type}:List (κ×V)->List (κ×Value)->Prop:=Paired fun (p:κ×V) (q:κ×Value)=>p.1=q.1/\RelV p.2 q.2
def kV:Key->V
 | .inl i=>.int i
 | .inr x=>.str x
inductive HO where
 /-- a list -/
 | lst (xs:List V)
 /-- a tuple (never changes) -/
 | tup (xs:List V)
 /-- a dict whose keys are ints and texts;one whose keys are tuples of ints and texts (the empty one is both) -/
 | dK (kvs:List (Key×V)) | dT (kvs:List (List Key×V))
 /-- a set of ints: its members,its size -/
 | set (S:Int->Bool) (n:Nat)
 /-- an instance of the class at C,its dict at dx,its attributes -/
 | ins (C dx:Addr) (fs:List (Str×V))
 /-- the dict of the instance at x -/
 | own (x:Addr)
 /-- the dict of an exception -/
 | xd (fs:List (Str×V))
 /-- a bound method,f of x -/
 | met (f x:Addr)
 /-- a range object lo,lo+1,.. below hi -/
 | rng (lo hi:Int)
 /-- a thing that is known to the object (the script;a dict while a loop walks it): read,never written while it is so -/
 | frz (o:Obj) (u:HO)
 /-- a code object's table -/
 | tbl (ps:Array Value)
 /-- any other thing,by what is true of its one object (a def of one's own: SetO a S n:=HO.ext fun h=>..) -/
 | ext (φ:Heap->Prop)
abbrev Hp:=Addr->Option HO
def upd (H:Hp) (a:Addr) (o:HO):Hp:=fun b=>if b=a then some o else H b
theorem zbx {H:Hp} {a:Addr} {o:HO}:upd H a o a=some o:=by unfold upd;rw[if_pos rfl]
theorem zaJ {H:Hp} {a b:Addr} {o:HO} (h:b≠a):upd H a o b=H b:=by unfold upd;rw[if_neg h]
theorem zaC {H:Hp} {a b:Addr} {o:HO} (h:H a=some o) (h':H b=none):a≠b:=by
 intro e;subst e;rw[h] at h';cases h'
section
variable (P:Program) (w:World)
def ObjOk (H:Hp) (h:Heap) (a:Addr):HO->Prop
 | .lst xs=>xs.length<=sizeLine/\∃(its:List Value) (n:Nat),Vals xs its/\h.get? a=some { cls:=.type "list",data:=.seq its.toArray n }
 | .tup xs=>xs.length<=sizeLine/\∃its:List Value,Vals xs its/\IsTup h a its.toArray
 | .dK kvs=>kvs.length<=sizeLine/\(a==sysModules)=false/\∃vs,KV kvs vs/\h.DictOf (ziw P w) a vs
 | .dT kvs=>kvs.length<=sizeLine/\(a==sysModules)=false/\∃xs:List (List Key×Addr×Value),
   Paired (fun (p:List Key×V) (q:List Key×Addr×Value)=>p.1=q.1/\H q.2.1=some (.tup (p.1.map kV))/\RelV p.2 q.2.2) kvs xs/\
   ∃o es ep,h.get? a=some o/\o.ExactDict/\o.data=.dict es ep/\es.toList=xs.map (entryOfKey (tupleKind (ziw P w)))/\(xs.map (·.1)).Nodup
 | .set S n=>h.SetOf (intKind P w) a S n
 | .ins C dx fs=>H dx=some (.own a)/\fs.length<=1000/\dx≠a/\h.get? a=some (PySem.W.instObj C dx)/\
   ∃mA,h.Ns1 dx mA/\(∀f,RelO (fs.lookup f) (mA f))/\PySem.Within mA (fs.map (·.1))
 | .own _=>∃o,h.get? a=some o
 | .xd fs=>∃mA,h.Ns1 a mA/\∀f,RelO (fs.lookup f) (mA f)
 | .rng lo hi=>∃t u v,h.get? a=some { cls:=.type "range",data:=.fields #[.int lo t,.int hi u,.int 1 v] }
 | .frz o u=>h.get? a=some o/\ObjOk H h a u
 | .tbl ps=>h.get? a=some { cls:=.none,data:=.fields ps }
 | .met f x=>h.get? a=some (PySem.W.methodObj (.ref f) (.ref x))
 | .ext φ=>φ h/\(∃o,h.get? a=some o)/\∀h1 h2:Heap,φ h1->(∀o,h1.get? a=some o->h2.get? a=some o)->φ h2
def HOk (H:Hp) (h:Heap):Prop:=∀a o,H a=some o->ObjOk P w H h a o
end
section
variable {P:Program} {w:World} {H H':Hp} {h h':Heap} {a:Addr} {o:HO}
theorem ObjOk.lt (x:ObjOk P w H h a o):a < h.objs.size:=by
 cases o with
 | lst xs=>obtain ⟨_,_,_,_,e⟩:=x;exact Heap.lt_size e
 | tup xs=>obtain ⟨_,_,_,p⟩:=x;exact p.lt
 | dK kvs=>obtain ⟨_,_,_,_,o,_,_,e,_⟩:=x;exact Heap.lt_size e
 | dT kvs=>obtain ⟨_,_,_,_,o,_,_,e,_⟩:=x;exact Heap.lt_size e
 | set S n=>obtain ⟨o,_,_,_,e,_⟩:=x;exact Heap.lt_size e
 | ins C dx fs=>obtain ⟨_,_,_,e,_⟩:=x;exact Heap.lt_size e
 | own y=>obtain ⟨_,e⟩:=x;exact Heap.lt_size e
 | xd fs=>obtain ⟨_,⟨_,_,_,e,_⟩,_⟩:=x;exact Heap.lt_size e
 | rng lo hi=>obtain ⟨_,_,_,e⟩:=x;exact Heap.lt_size e
 | frz ob u=>obtain ⟨e,_⟩:=x;exact Heap.lt_size e
 | tbl ps=>exact Heap.lt_size (show h.get? a=some _ from x)
 | met f y=>exact Heap.lt_size (show h.get? a=some _ from x)
 | ext φ=>obtain ⟨_,⟨_,e⟩,_⟩:=x;exact Heap.lt_size e
theorem Paired.mapP {α β:Type} {F G:α->β->Prop} {l₁:List α} {l₂:List β} (h:Paired F l₁ l₂) (f:∀a b,F a b->G a b):Paired G l₁ l₂:=by
 induction h with
 | nil=>exact .nil
 | cons r t ih=>exact .cons (f _ _ r) ih
theorem ObjOk.stay (x:ObjOk P w H h a o) (k:∀b u,(b=a\/H b=some (.own a))->h.get? b=some u->h'.get? b=some u)
  (ho:∀b,H b=some (.own a)->H' b=some (.own a)) (ht:∀b xs,H b=some (.tup xs)->H' b=some (.tup xs)):ObjOk P w H' h' a o:=by
 induction o with
 | lst xs=>obtain ⟨z,its,n,r,e⟩:=x;exact ⟨z,its,n,r,k _ _ (.inl rfl) e⟩
 | tup xs=>obtain ⟨z,its,r,ob,e,c⟩:=x;exact ⟨z,its,r,ob,k _ _ (.inl rfl) e,c⟩
 | dK kvs=>obtain ⟨z,y,vs,r,ob,es,ep,e,c⟩:=x;exact ⟨z,y,vs,r,ob,es,ep,k _ _ (.inl rfl) e,c⟩
 | dT kvs=>
  obtain ⟨z,y,xs,r,ob,es,ep,e,c⟩:=x;exact ⟨z,y,xs,Paired.mapP r fun p q z=>⟨z.1,ht _ _ z.2.1,z.2.2⟩,ob,es,ep,k _ _ (.inl rfl) e,c⟩
 | set S n=>obtain ⟨ob,es,ep,t,e,c⟩:=x;exact ⟨ob,es,ep,t,k _ _ (.inl rfl) e,c⟩
 | ins C dx fs=>
  obtain ⟨d,z,ne,e,mA,⟨od,es,ep,e2,c⟩,r⟩:=x;exact ⟨ho _ d,z,ne,k _ _ (.inl rfl) e,mA,⟨od,es,ep,k _ _ (.inr d) e2,c⟩,r⟩
 | own y=>obtain ⟨ob,e⟩:=x;exact ⟨ob,k _ _ (.inl rfl) e⟩
 | xd fs=>obtain ⟨mA,⟨od,es,ep,e,c⟩,r⟩:=x;exact ⟨mA,⟨od,es,ep,k _ _ (.inl rfl) e,c⟩,r⟩
 | rng lo hi=>obtain ⟨t,u,v,e⟩:=x;exact ⟨t,u,v,k _ _ (.inl rfl) e⟩
 | frz ob u ih=>obtain ⟨e,q⟩:=x;exact ⟨k _ _ (.inl rfl) e,ih q⟩
 | tbl ps=>
  have e:h.get? a=some { cls:=.none,data:=.fields ps }:=x
  show h'.get? a=some { cls:=.none,data:=.fields ps }
  exact k a _ (.inl rfl) e
 | met f y=>
  have e:h.get? a=some (PySem.W.methodObj (.ref f) (.ref y)):=x
  show h'.get? a=some (PySem.W.methodObj (.ref f) (.ref y))
  exact k a _ (.inl rfl) e
 | ext φ=>obtain ⟨p,⟨o,e⟩,st⟩:=x;exact ⟨st _ _ p fun o q=>k _ _ (.inl rfl) q,⟨o,k _ _ (.inl rfl) e⟩,st⟩
theorem HOk.lt (x:HOk P w H h) (e:H a=some o):a < h.objs.size:=(x a o e).lt
theorem HOk.fresh (x:HOk P w H h) (e:h.objs.size<=a):H a=none:=by
 cases q:H a with
 | none=>rfl
 | some u=>exact absurd (Nat.lt_of_lt_of_le (x.lt q) e) (Nat.lt_irrefl _)
theorem HOk.kept (x:HOk P w H h) (k:∀b u,h.get? b=some u->h'.get? b=some u):HOk P w H h':=fun a o e=>
 (x a o e).stay (fun b u _ q=>k b u q) (fun _ q=>q) fun _ _ q=>q
theorem HOk.laid (x:HOk P w H h) (k:∀b u,h.get? b=some u->h'.get? b=some u) (hp:h.objs.size<=a) (new:ObjOk P w (upd H a o) h' a o):HOk P w (upd H a o) h':=fun b u e=>by
 have hn:=x.fresh hp
 by_cases hb:b=a
 .subst hb;rw[zbx] at e;cases e;exact new
 .rw[zaJ hb] at e;exact (x b u e).stay (fun c v _ q=>k c v q) (fun c q=>by rw[zaJ (zaC q hn)];exact q) fun c xs q=>by rw[zaJ (zaC q hn)];exact q
end
def Rd (H:Hp) (a:Addr) (u:HO):Prop:=H a=some u\/∃o,H a=some (.frz o u)
theorem Rd.ok {P:Program} {w:World} {H:Hp} {h:Heap} {a:Addr} {u:HO} (r:Rd H a u) (x:HOk P w H h):ObjOk P w H h a u:=by
 rcases r with r | ⟨o,r⟩
 .exact x a u r
 .obtain ⟨_,q⟩:=x a _ r;exact q
def Mut:Option HO->Prop
 | some (.lst _)=>True
 | some (.dK _)=>True
 | some (.dT _)=>True
 | some (.set _ _)=>True
 | some (.ins _ _ _)=>True
 | some (.ext _)=>True
 | _=>False
section
variable {P:Program} {w:World} {H:Hp} {h h':Heap} {x e:Addr} {o':HO}
theorem HOk.write (ok:HOk P w H h) (mu:Mut (H x)) (he:e=x\/H e=some (.own x)) (k:∀b u,b≠e->h.get? b=some u->h'.get? b=some u) (heo:∃u,h'.get? e=some u)
  (new:ObjOk P w (upd H x o') h' x o'):HOk P w (upd H x o') h':=fun b u q=>by
 have nown:∀c y,H c=some (.own y)->c≠x:=fun c y r z=>by subst z;rw[r] at mu;exact mu
 have ntup:∀c xs,H c=some (.tup xs)->c≠x:=fun c xs r z=>by subst z;rw[r] at mu;exact mu
 by_cases hb:b=x
 .subst hb;rw[zbx] at q;cases q;exact new
 .rw[zaJ hb] at q
  by_cases hbe:b=e
  .have q':H b=some (.own x):=by
    rcases he with z | z
    .exact absurd (hbe.trans z) hb
    .rw[hbe];exact z
   rw[q] at q';cases q';obtain ⟨v,hv⟩:=heo;exact ⟨v,by rw[hbe];exact hv⟩
  .refine (ok b u q).stay (fun c v hc r=>k c v ?_ r) (fun c r=>by rw[zaJ (nown c b r)];exact r) fun c xs r=>by rw[zaJ (ntup c xs r)];exact r
   rcases hc with rfl | hc
   .exact hbe
   .rintro rfl
    rcases he with z | z
    .exact nown c b hc z
    .rw[hc] at z;cases z;exact hb rfl
end
structure Un (fs ex:List Addr) (H H':Hp) (h h':Heap):Prop where
 keep:∀b o,h.get? b=some o->H b=none->b∉fs->b∉ex->h'.get? b=some o
 slot:∀b o,h.get? b=some o->H b=none->b∈fs->b∉ex->∃sl,h'.get? b=some { o with slots:=sl }
 free:∀b o,h.get? b=some o->H b=none->b∉ex->H' b=none
 there:∀b o,h.get? b=some o->b∉ex->∃o',h'.get? b=some o'
 tups:∀b xs,H b=some (.tup xs)->H' b=some (.tup xs)
 frzs:∀b o u,H b=some (.frz o u)->H' b=some (.frz o u)
 tbls:∀b ps,H b=some (.tbl ps)->∃more,H' b=some (.tbl (ps++more))
section
variable {fs fs' ex ex':List Addr} {H H1 H2:Hp} {h h1 h2 h':Heap} {a x e:Addr} {o:HO}
theorem Un.any (u:Un fs ex H H1 h h1) {b:Addr} {ob:Obj} (q:h.get? b=some ob) (n:H b=none) (hx:b∉ex):∃sl,h1.get? b=some { ob with slots:=sl }:=by
 by_cases hb:b∈fs
 .exact u.slot b ob q n hb hx
 .exact ⟨ob.slots,u.keep b ob q n hb hx⟩
theorem Un.trans (a:Un fs ex H H1 h h1) (b:Un fs ex H1 H2 h1 h2):Un fs ex H H2 h h2 where
 keep:=fun c ob q n hc hx=>b.keep c ob (a.keep c ob q n hc hx) (a.free c ob q n hx) hc hx
 slot:=fun c ob q n hc hx=>by
  obtain ⟨sl,e1⟩:=a.slot c ob q n hc hx;obtain ⟨sl',e2⟩:=b.slot c _ e1 (a.free c ob q n hx) hc hx;exact ⟨sl',e2⟩
 free:=fun c ob q n hx=>by
  obtain ⟨o',e1⟩:=a.there c ob q hx;exact b.free c o' e1 (a.free c ob q n hx) hx
 there:=fun c ob q hx=>by
  obtain ⟨o',e1⟩:=a.there c ob q hx;exact b.there c o' e1 hx
 tups:=fun c xs q=>b.tups c xs (a.tups c xs q)
 frzs:=fun c ob xs q=>b.frzs c ob xs (a.frzs c ob xs q)
 tbls:=fun c ps q=>by
  obtain ⟨m1,e1⟩:=a.tbls c ps q;obtain ⟨m2,e2⟩:=b.tbls c _ e1;exact ⟨m1++m2,by rw[e2,Array.append_assoc]⟩
theorem Un.kept (k:∀b u,h.get? b=some u->h'.get? b=some u):Un fs ex H H h h':=
 ⟨fun b ob q _ _ _=>k b ob q,fun b ob q _ _ _=>⟨ob.slots,k b ob q⟩,fun _ _ _ n _=>n,fun b ob q _=>⟨ob,k b ob q⟩,fun _ _ q=>q,fun _ _ _ q=>q,fun _ ps q=>⟨#[],by rw[q];simp⟩⟩
theorem Un.refl:Un fs ex H H h h:=Un.kept fun _ _ q=>q
theorem Un.laid (k:∀b u,h.get? b=some u->h'.get? b=some u) (hp:h.objs.size<=a) (hn:H a=none):Un fs ex H (upd H a o) h h' where
 keep:=fun b u q _ _ _=>k b u q
 slot:=fun b u q _ _ _=>⟨u.slots,k b u q⟩
 free:=fun b u q n _=>by rw[zaJ (Nat.ne_of_lt (Nat.lt_of_lt_of_le (Heap.lt_size q) hp))];exact n
 there:=fun b u q _=>⟨u,k b u q⟩
 tups:=fun b xs q=>by rw[zaJ (zaC q hn)];exact q
 frzs:=fun b u xs q=>by rw[zaJ (zaC q hn)];exact q
 tbls:=fun b ps q=>⟨#[],by rw[zaJ (zaC q hn),q];simp⟩
theorem Un.write (mu:Mut (H x)) (he:e=x\/H e=some (.own x)) (k:∀b u,b≠e->h.get? b=some u->h'.get? b=some u) (heo:∃u,h'.get? e=some u):Un fs ex H (upd H x o) h h':=by
 have hx:∀b,H b=none->b≠x:=fun b n z=>by subst z;rw[n] at mu;exact mu
 have hb:∀b,H b=none->b≠e:=fun b n z=>by
  subst z;rcases he with r | r
  .exact hx b n r
  .rw[n] at r;cases r
 have hm:∀b u,H b=some u->¬Mut (some u)->b≠x:=fun b u q nm z=>by subst z;rw[q] at mu;exact nm mu
 refine ⟨fun b u q n _ _=>k b u (hb b n) q,fun b u q n _ _=>⟨u.slots,k b u (hb b n) q⟩,fun b u q n _=>by rw[zaJ (hx b n)];exact n,fun b u q _=>?_,
  fun b xs q=>by rw[zaJ (hm b _ q fun z=>z)];exact q,fun b u xs q=>by rw[zaJ (hm b _ q fun z=>z)];exact q,fun b ps q=>⟨#[],by rw[zaJ (hm b _ q fun z=>z),q];simp⟩⟩
 by_cases hbe:b=e
 .subst hbe;exact heo
 .exact ⟨u,k b u hbe q⟩
theorem Un.mono (u:Un fs ex H H1 h h1) (hs:∀b∈fs,b∈fs') (hx:∀b∈ex,b∈ex'):Un fs' ex' H H1 h h1:=
 ⟨fun b ob q n hb he=>u.keep b ob q n (fun z=>hb (hs b z)) fun z=>he (hx b z),fun _ _ q n _ he=>u.any q n fun z=>he (hx _ z),fun b ob q n he=>u.free b ob q n fun z=>he (hx b z),fun b ob q he=>u.there b ob q fun z=>he (hx b z),u.tups,u.frzs,u.tbls⟩
end
def trk (h:Heap) (H:Hp):List Addr:=(List.range h.objs.size).filter fun a=>(H a).isSome
def hidT (h:Heap) (H:Hp):Heap:=PySem.W.hideAll h (trk h H)
theorem zkt (h:Heap) (H:Hp):(hidT h H).objs.size=h.objs.size:=PySem.W.hideAll_size _ _
theorem znb {h:Heap} {H:Hp} {b:Addr} {o:Obj} (e:h.get? b=some o) (n:H b=none):(hidT h H).get? b=some o:=
 PySem.W.hideAll_get _ e fun hm=>by
  have q:(H b).isSome=true:=(List.mem_filter.mp hm).2;rw[n] at q;simp at q
theorem zpI {h:Heap} {H:Hp} {b:Addr} {o:Obj} (e:(hidT h H).get? b=some o):h.get? b=some o/\H b=none:=by
 have e':h.get? b=some o:=PySem.W.of_hideAll (trk h H) e;refine ⟨e', ?_⟩
 cases q:H b with
 | none=>rfl
 | some x=>
  have hm:b∈trk h H:=List.mem_filter.mpr ⟨List.mem_range.mpr (Heap.lt_size e'),by simp[q]⟩;have z:(hidT h H).get? b=none:=PySem.W.hideAll_none (trk h H) hm;rw[z] at e;cases e
structure Mod (K:PySem.W.Frag) (mg:Str->Option Value) (base:Heap):Prop where
 kin:K.In base
 glob:base.Ns mainGlobals mg
 blt:∃mb,base.Ns builtinsNs mb/\∀x:Str,x≠"__name__"->mb x=bootBuiltins x
 nolimit:base.NoLimit
structure Cx where
 prog:Program
 w:World
 K:PySem.W.Frag
 mg:Str->Option Value
 base:Heap
 A:Around
 N:List Str
 s₀:Shared
 H₀:Hp
 env:Env
 outer:List Env
 stack:List Env
 ex:List Addr
 fn:Str->Bool
 calm:Bool
 pn:List (Addr×Obj)
 xe:Value->Shared->Prop
def frs (l:List Env):List Addr:=l.filterMap (·.frame)
abbrev Cx.fs (X:Cx):List Addr:=frs X.outer
def Vis (sc:Scope) (x:Str):Prop:=sc.names.lookup x=some .local\/sc.names.lookup x=some .cell\/sc.names.lookup x=some .free
def Loc (sc:Scope) (x:Str):Prop:=sc.names.lookup x=some .local\/sc.names.lookup x=some .cell
def Look (env:Env) (h:Heap) (m:Str->Option Value) (x:Str) (u:Value):Prop:=
 (env.kindOf x=some .local/\m x=some u)\/((env.kindOf x=some .cell\/env.kindOf x=some .free)/\∃c,env.cells.lookup x=some c/\h.IsCell c (some u))
structure Cx.Ok (X:Cx):Prop where
 mod:Mod X.K X.mg X.base
 kind:X.env.scope.kind=.function
 glob:X.env.globals=mainGlobals
 blt:X.env.builtins=builtinsNs
 above:X.s₀.heap.objs.size<=X.env.locals
 inj:∀x y c,X.env.cells.lookup x=some c->X.env.cells.lookup y=some c->x=y
 has:∀x,(X.env.kindOf x=some .cell\/X.env.kindOf x=some .free)->∃c,X.env.cells.lookup x=some c
 cab:∀x c,X.fn x=true->X.env.cells.lookup x=some c->X.s₀.heap.objs.size<=c
 hd:X.calm=true->X.A.handled=none
 frames:X.A.frames=some X.stack
 stk:X.stack=X.outer\/(X.stack=X.env::X.outer/\X.env.frame=some X.env.locals)
 exf:∀b∈X.ex,b≠X.env.locals/\∀x c,X.env.cells.lookup x=some c->c≠b
 bs:∀b o,X.base.get? b=some o->X.s₀.heap.get? b=some o/\X.H₀ b=none
 bsz:X.base.objs.size<=X.s₀.heap.objs.size
 noex:∀b o,X.base.get? b=some o->b∉X.ex
 exfs:∀b∈X.ex,b∉X.fs
 funs:X.s₀.heap.FunFrames X.base X.outer
 frf:∀b∈X.fs,X.H₀ b=none
structure Inv (X:Cx) (pins:List (Addr×Obj)) (σ:List (Option V)) (H:Hp) (s:Shared):Prop where
 ok:X.Ok
 os:s.os=X.s₀.os
 bare:AllBare s.gens
 base:Un X.fs X.ex X.H₀ H X.s₀.heap s.heap
 loc:∃m,s.heap.Ns X.env.locals m/\∀(i:Nat) (x:Str) (v:V),X.N[i]? = some x->σ[i]? = some (some v)->Vis X.env.scope x->∃u,RelV v u/\Look X.env s.heap m x u
 cell:∀x c,X.env.cells.lookup x=some c->∃v,s.heap.IsCell c v
 free:H X.env.locals=none
 freeC:∀x c,X.env.cells.lookup x=some c->H c=none
 pin:∀p∈X.pn++pins,s.heap.get? p.1=some p.2/\H p.1=none/\p.1≠X.env.locals/\p.1∉X.fs/\∀v,p.2.data≠.cell v
 hok:HOk X.prog X.w H s.heap
 len:σ.length=X.N.length
section
variable {X:Cx} {pins:List (Addr×Obj)} {σ:List (Option V)} {H H':Hp} {s:Shared} {h':Heap}
theorem Cx.Ok.nofr (ok:X.Ok) {b:Addr} {o:Obj} (e:X.base.get? b=some o):b∉X.fs:=fun hb=>by
 have:=(ok.funs.mem hb).1
 rw[e] at this;cases this
theorem Inv.bs (I:Inv X pins σ H s):∀b o,X.base.get? b=some o->s.heap.get? b=some o/\H b=none:=fun b o e=>
 ⟨I.base.keep b o (I.ok.bs b o e).1 (I.ok.bs b o e).2 (I.ok.nofr e) (I.ok.noex b o e),I.base.free b o (I.ok.bs b o e).1 (I.ok.bs b o e).2 (I.ok.noex b o e)⟩
theorem Inv.bk (I:Inv X pins σ H s):∀b o,X.base.get? b=some o->s.heap.get? b=some o:=fun b o e=>(I.bs b o e).1
theorem Inv.mod (I:Inv X pins σ H s):Mod X.K X.mg X.base:=I.ok.mod
theorem Inv.kIn (I:Inv X pins σ H s):X.K.In s.heap:=I.ok.mod.kin.keeps I.bk
theorem Inv.lt (I:Inv X pins σ H s):X.env.locals < s.heap.objs.size:=let ⟨_,hn,_⟩:=I.loc;hn.lt
theorem Inv.sz (I:Inv X pins σ H s):X.s₀.heap.objs.size<=s.heap.objs.size:=Nat.le_trans I.ok.above (Nat.le_of_lt I.lt)
theorem Inv.nofs (I:Inv X pins σ H s) {a:Addr} (h:s.heap.objs.size<=a):a∉X.fs:=fun hb=>by
 obtain ⟨_,o,ho,_⟩:=I.ok.funs.mem hb;exact absurd (Nat.lt_of_lt_of_le (Heap.lt_size ho) (Nat.le_trans I.sz h)) (Nat.lt_irrefl _)
theorem Inv.cne (I:Inv X pins σ H s):∀x c,X.env.cells.lookup x=some c->c≠X.env.locals:=fun x c e z=>by
 obtain ⟨v,o,ho,hd⟩:=I.cell x c e;obtain ⟨m,⟨o',es,ep,ho',hd',_⟩,_⟩:=I.loc;rw[z,ho'] at ho;cases ho;rw[hd'] at hd;cases hd
theorem Inv.funs (I:Inv X pins σ H s):s.heap.FunFrames X.base X.outer:=by
 have all:∀(l:List Env),(∀b∈frs l,b∈X.fs)->X.s₀.heap.FunFrames X.base l->s.heap.FunFrames X.base l:=by
  intro l
  induction l with
  | nil=>intro _ _;trivial
  | cons env r ih=>
   intro hs hl;obtain ⟨hk,⟨L,o,hf,hn,ho,hd⟩,hr⟩:=hl;have hL:L∈X.fs:=hs L (by unfold frs;rw[List.filterMap_cons,hf];exact List.mem_cons_self);obtain ⟨sl,e⟩:=I.base.slot L o ho (I.ok.frf L hL) hL fun z=>I.ok.exfs L z hL
   exact ⟨hk,⟨L,_,hf,hn,e,hd⟩,ih (fun b hb=>hs b (by unfold frs;rw[List.filterMap_cons,hf];exact List.mem_cons_of_mem _ hb)) hr⟩
 exact all X.outer (fun _ hb=>hb) I.ok.funs
theorem Inv.stack (I:Inv X pins σ H s):s.heap.FunFrames X.base X.stack:=by
 rcases I.ok.stk with e | ⟨e,hf⟩
 .rw[e];exact I.funs
 .rw[e];obtain ⟨m,hn,_⟩:=I.loc;refine .cons (by rw[I.ok.kind];decide) hf hn ?_ I.funs;exact Heap.get?_none_of_le (Nat.le_trans I.ok.bsz I.ok.above)
theorem Inv.stkSub (I:Inv X pins σ H s):∀b∈frs X.stack,b∈X.env.locals::X.fs:=fun b hb=>by
 rcases I.ok.stk with e | ⟨e,hf⟩
 .rw[e] at hb;exact List.mem_cons_of_mem _ hb
 .rw[e] at hb;unfold frs at hb;rw[List.filterMap_cons,hf] at hb;exact hb
theorem Inv.stkFree (I:Inv X pins σ H s):∀b∈frs X.stack,H b=none:=fun b hb=>by
 rcases List.mem_cons.mp (I.stkSub b hb) with e | hb
 .rw[e];exact I.free
 .obtain ⟨_,o,ho,_⟩:=I.ok.funs.mem hb;exact I.base.free b o ho (I.ok.frf b hb) fun z=>I.ok.exfs b z hb
theorem Inv.step {g':Array GenState} {t':Nat} {d':Drawn} {ch:List Addr} (I:Inv X pins σ H s)
  (hch:∀b∈ch,(b∈X.ex\/X.s₀.heap.objs.size<=b)/\b≠X.env.locals/\(∀x c,X.env.cells.lookup x=some c->c≠b)/\∀p∈X.pn++pins,p.1≠b)
  (keep:∀b o,b≠X.env.locals->b∉X.fs->b∉ch->s.heap.get? b=some o->H b=none->h'.get? b=some o)
  (slot:∀b o,b≠X.env.locals->b∈X.fs->b∉ch->s.heap.get? b=some o->H b=none->∃sl,h'.get? b=some { o with slots:=sl }) (free:∀b o,b∉ch->s.heap.get? b=some o->H b=none->H' b=none)
  (there:∀b o,b∉ch->s.heap.get? b=some o->∃o',h'.get? b=some o')
  (tups:∀b xs,H b=some (.tup xs)->H' b=some (.tup xs)) (frzs:∀b o u,H b=some (.frz o u)->H' b=some (.frz o u)) (tbls:∀b ps,H b=some (.tbl ps)->∃more,H' b=some (.tbl (ps++more)))
  (ns:∀m,s.heap.Ns X.env.locals m->h'.Ns X.env.locals m) (hok:HOk X.prog X.w H' h') (hg:AllBare g') :
  Inv X pins σ H' { s with heap:=h',gens:=g',drawn:=d',toks:=t' }:=by
 have neL:∀b o,X.s₀.heap.get? b=some o->b≠X.env.locals:=fun b o e=>Nat.ne_of_lt (Nat.lt_of_lt_of_le (Heap.lt_size e) I.ok.above)
 have neC:∀b o,X.s₀.heap.get? b=some o->b∉X.ex->b∉ch:=fun b o e hx hb=>by
  rcases (hch b hb).1 with z | z
  .exact hx z
  .exact absurd (Nat.lt_of_lt_of_le (Heap.lt_size e) z) (Nat.lt_irrefl _)
 have cellK:∀x c,X.env.cells.lookup x=some c->∀v,s.heap.IsCell c v->h'.IsCell c v:=fun x c e v hx__=>by
  obtain ⟨o,ho,hd⟩:=hx__;have nch:c∉ch:=fun z=>(hch c z).2.2.1 x c e rfl
  by_cases hc:c∈X.fs
  .obtain ⟨sl,q⟩:=slot c o (I.cne x c e) hc nch ho (I.freeC x c e);exact ⟨_,q,hd⟩
  .exact ⟨o,keep c o (I.cne x c e) hc nch ho (I.freeC x c e),hd⟩
 refine ⟨I.ok,I.os,hg,⟨fun b o e n hb hx=>?_,fun b o e n hb hx=>?_,fun b o e n hx=>?_,fun b o e hx=>?_,fun b xs e=>tups b xs (I.base.tups b xs e),fun b o xs e=>frzs b o xs (I.base.frzs b o xs e),fun b ps e=>?_⟩, ?_,fun x c e=>?_, ?_,fun x c e=>?_,fun p hp=>?_,hok,I.len⟩
 .exact keep b o (neL b o e) hb (neC b o e hx) (I.base.keep b o e n hb hx) (I.base.free b o e n hx)
 .obtain ⟨sl,e1⟩:=I.base.slot b o e n hb hx;obtain ⟨sl',e2⟩:=slot b _ (neL b o e) hb (neC b o e hx) e1 (I.base.free b o e n hx);exact ⟨sl',e2⟩
 .obtain ⟨o',e1⟩:=I.base.there b o e hx;exact free b o' (neC b o e hx) e1 (I.base.free b o e n hx)
 .obtain ⟨o',e1⟩:=I.base.there b o e hx;exact there b o' (neC b o e hx) e1
 .obtain ⟨m1,e1⟩:=I.base.tbls b ps e;obtain ⟨m2,e2⟩:=tbls b _ e1;exact ⟨m1++m2,by rw[e2,Array.append_assoc]⟩
 .obtain ⟨m,hn,hl⟩:=I.loc;refine ⟨m,ns m hn,fun i x v e1 e2 e3=>?_⟩;obtain ⟨u,r,l⟩:=hl i x v e1 e2 e3;refine ⟨u,r, ?_⟩;rcases l with l | ⟨k,c,e,z⟩
  .exact .inl l
  .exact .inr ⟨k,c,e,cellK x c e _ z⟩
 .obtain ⟨v,z⟩:=I.cell x c e;exact ⟨v,cellK x c e v z⟩
 .obtain ⟨m,⟨o,_,_,ho,_⟩,_⟩:=I.loc;exact free _ o (fun z=>(hch _ z).2.1 rfl) ho I.free
 .obtain ⟨v,o,ho,hd⟩:=I.cell x c e;exact free c o (fun z=>(hch c z).2.2.1 x c e rfl) ho (I.freeC x c e)
 .obtain ⟨e,n,ne,nf,d⟩:=I.pin p hp;have nch:p.1∉ch:=fun z=>(hch p.1 z).2.2.2 p hp rfl
  exact ⟨keep p.1 p.2 ne nf nch e n,free p.1 p.2 nch e n,ne,nf,d⟩
theorem Inv.un {t':Nat} (I:Inv X pins σ H s) (u:Un X.fs [] H H' s.heap h') (hok:HOk X.prog X.w H' h'):Inv X pins σ H' { s with heap:=h',toks:=t' }:=by
 obtain ⟨m,⟨o,es,ep,ho,r⟩,_⟩:=id I.loc;obtain ⟨sl,hL⟩:=u.any ho I.free (by simp);exact I.step (g':=s.gens) (d':=s.drawn) (ch:=[]) (fun _ z=>nomatch z) (fun b o _ hb _ e n=>u.keep b o e n hb (by simp)) (fun b o _ hb _ e n=>u.slot b o e n hb (by simp)) (fun b o _ e n=>u.free b o e n (by simp)) (fun b o _ e=>u.there b o e (by simp)) u.tups u.frzs u.tbls (fun m' hm=>by
  obtain ⟨o',es',ep',ho',r'⟩:=hm;rw[ho] at ho';cases ho';exact ⟨_,es',ep',hL,r'⟩) hok I.bare
theorem Inv.call {g':Array GenState} {t':Nat} {d':Drawn} {ch:List Addr} (I:Inv X pins σ H s) (u:Un (frs X.stack) ch H H' s.heap h') (hok:HOk X.prog X.w H' h') (hg:AllBare g')
  (hch:∀b∈ch,(b∈X.ex\/X.s₀.heap.objs.size<=b)/\b≠X.env.locals/\(∀x c,X.env.cells.lookup x=some c->c≠b)/\∀p∈X.pn++pins,p.1≠b) :
  Inv X pins σ H' { s with heap:=h',gens:=g',drawn:=d',toks:=t' }:=by
 obtain ⟨m,⟨o,es,ep,ho,r⟩,_⟩:=id I.loc;obtain ⟨sl,hL⟩:=u.any ho I.free fun z=>(hch _ z).2.1 rfl
 exact I.step (ch:=ch) hch (fun b o hL hb hc e n=>u.keep b o e n (fun z=>(List.mem_cons.mp (I.stkSub b z)).elim hL hb) hc) (fun b o _ _ hc e n=>u.any e n hc) (fun b o hc e n=>u.free b o e n hc) (fun b o hc e=>u.there b o e hc) u.tups u.frzs u.tbls (fun m' hm=>by
  obtain ⟨o',es',ep',ho',r'⟩:=hm;rw[ho] at ho';cases ho';exact ⟨_,es',ep',hL,r'⟩) hok hg
theorem Inv.turned {t':Nat} {it:Addr} (I:Inv X pins σ H s) (k:∀b o,b≠it->s.heap.get? b=some o->h'.get? b=some o) (hn:H it=none) (hL:it≠X.env.locals)
  (h1:it∈X.ex\/X.s₀.heap.objs.size<=it) (h2:∀x c,X.env.cells.lookup x=some c->c≠it) (h3:∀p∈X.pn++pins,p.1≠it):Inv X pins σ H { s with heap:=h',toks:=t' }:=by
 have nit:∀b u,H b=some u->b≠it:=fun b u e z=>by rw[z,hn] at e;cases e
 refine I.step (g':=s.gens) (d':=s.drawn) (ch:=[it]) (fun b hb=>?_) (fun b o _ _ hc e _=>k b o (fun z=>hc (by simp[z])) e) (fun b o _ _ hc e _=>⟨o.slots,k b o (fun z=>hc (by simp[z])) e⟩) (fun _ _ _ _ n=>n)
  (fun b o hc e=>⟨o,k b o (fun z=>hc (by simp[z])) e⟩) (fun _ _ e=>e) (fun _ _ _ e=>e) (fun b ps e=>⟨#[],by rw[e];simp⟩) (fun m hm=>?_) (fun b u e=>?_) I.bare
 .have e:b=it:=by simpa using hb
  subst e;exact ⟨h1,hL,h2,h3⟩
 .obtain ⟨o,es,ep,ho,r⟩:=hm;exact ⟨o,es,ep,k _ o (Ne.symm hL) ho,r⟩
 .refine (I.hok b u e).stay (fun c v hc q=>k c v ?_ q) (fun _ q=>q) fun _ _ q=>q
  rcases hc with z | z
  .rw[z];exact nit b u e
  .exact nit c _ z
theorem Inv.tok (I:Inv X pins σ H s) (t:Nat):Inv X pins σ H { s with toks:=t }:=I.un (h':=s.heap) (t':=t) Un.refl I.hok
theorem Inv.kept {t':Nat} (I:Inv X pins σ H s) (k:∀b u,s.heap.get? b=some u->h'.get? b=some u):Inv X pins σ H { s with heap:=h',toks:=t' }:=I.un (Un.kept k) (I.hok.kept k)
theorem Inv.laid {a:Addr} {o:HO} {t':Nat} (I:Inv X pins σ H s) (k:∀b u,s.heap.get? b=some u->h'.get? b=some u) (hp:s.heap.objs.size<=a) (new:ObjOk X.prog X.w (upd H a o) h' a o) :
  Inv X pins σ (upd H a o) { s with heap:=h',toks:=t' }:=I.un (Un.laid k hp (I.hok.fresh hp)) (I.hok.laid k hp new)
theorem Inv.write {x e:Addr} {o:HO} {t':Nat} (I:Inv X pins σ H s) (mu:Mut (H x)) (he:e=x\/H e=some (.own x)) (k:∀b u,b≠e->s.heap.get? b=some u->h'.get? b=some u) (heo:∃u,h'.get? e=some u)
  (new:ObjOk X.prog X.w (upd H x o) h' x o):Inv X pins σ (upd H x o) { s with heap:=h',toks:=t' }:=I.un (Un.write mu he k heo) (I.hok.write mu he k heo new)
theorem Inv.weak {σ':List (Option V)} (I:Inv X pins σ H s) (hl:σ'.length=σ.length) (w:∀(i:Nat) v,σ'[i]? = some (some v)->σ[i]? = some (some v)):Inv X pins σ' H s:=
 ⟨I.ok,I.os,I.bare,I.base,let ⟨m,hn,hl'⟩:=I.loc;⟨m,hn,fun i x v e1 e2 e3=>hl' i x v e1 (w i v e2) e3⟩,I.cell,I.free,I.freeC,I.pin,I.hok,hl.trans I.len⟩
theorem Inv.pins_of {pins':List (Addr×Obj)} (I:Inv X pins σ H s) (h:∀p∈pins',s.heap.get? p.1=some p.2/\H p.1=none/\p.1≠X.env.locals/\p.1∉X.fs/\∀v,p.2.data≠.cell v):Inv X pins' σ H s:=
 ⟨I.ok,I.os,I.bare,I.base,I.loc,I.cell,I.free,I.freeC,fun p hp=>(List.mem_append.mp hp).elim (fun z=>I.pin p (List.mem_append_left _ z)) (h p),I.hok,I.len⟩
theorem zi1 {N:List Str} (hN:N.Nodup) {i j:Nat} {x:Str} (a:N[i]? = some x) (b:N[j]? = some x):i=j:=by
 obtain ⟨h1,e1⟩:=List.getElem?_eq_some_iff.mp a;obtain ⟨h2,e2⟩:=List.getElem?_eq_some_iff.mp b;exact (List.getElem_inj hN).mp (e1.trans e2.symm)
theorem zhZ {M:Model} {A:Around} {E:Value->Shared->Prop} {i:Nat} {x:Str} {v:V} {u:Value} {Q:Unit->Shared->Prop} (I:Inv X pins σ H s) (hN:X.N.Nodup) (hi:X.N[i]? = some x) (hx:Loc X.env.scope x) (r:RelV v u)
  (h:∀s',Inv X pins (σ.set i (some v)) H s'->(∃a,Heap.SameBut a s.heap s'.heap/\(a=X.env.locals\/X.env.cells.lookup x=some a))->Q () s') (hf:X.fn x=true\/X.env.scope.names.lookup x=some .local:=by first | exact .inl rfl | exact .inr rfl | assumption):wpAny M A (storeName X.env x u) Q E s:=by
 obtain ⟨m,hn,hl⟩:=id I.loc;have hcls:(X.env.scope.kind==.class || (X.env.scope.kind==.module&&X.env.locals != X.env.globals))=false:=by rw[I.ok.kind];rfl
 have hiσ:i < σ.length:=by rw[I.len];exact (List.getElem?_eq_some_iff.mp hi).1
 have cne:=I.cne;have tracked:∀{a:Addr} {h':Heap},(∃o,s.heap.get? a=some o/\H a=none)->Heap.SameBut a s.heap h'->HOk X.prog X.w H h':=fun {a h'} ha hs b ob e=>by
  obtain ⟨_,_,hfree⟩:=ha;refine (I.hok b ob e).stay (fun c w' hc q=>(hs.2 c ?_).trans q) (fun _ q=>q) fun _ _ q=>q
  rintro rfl
  rcases hc with rfl | hc
  .rw[hfree] at e;cases e
  .rw[hfree] at hc;cases hc
 rcases hx with hk | hk
 .refine wpAny_storeName_local hk hn (fun h' hn' hs=>?_) hcls;obtain ⟨oL,_,_,hoL,_⟩:=id hn;refine h _ ⟨I.ok,I.os,I.bare,⟨fun b o e n hb hx=>?_,fun b o e n hb hx=>?_,I.base.free,fun b o e hx=>?_,I.base.tups,I.base.frzs,I.base.tbls⟩,⟨_,hn',fun j y v' e1 e2 e3=>?_⟩,fun y c e=>?_,I.free,I.freeC,fun p hp=>?_,tracked ⟨oL,hoL,I.free⟩ hs,by simpa using I.len⟩ ⟨_,hs,.inl rfl⟩
  .exact (hs.2 b (Nat.ne_of_lt (Nat.lt_of_lt_of_le (Heap.lt_size e) I.ok.above))).trans (I.base.keep b o e n hb hx)
  .obtain ⟨sl,e1⟩:=I.base.slot b o e n hb hx;exact ⟨sl,(hs.2 b (Nat.ne_of_lt (Nat.lt_of_lt_of_le (Heap.lt_size e) I.ok.above))).trans e1⟩
  .obtain ⟨o',e1⟩:=I.base.there b o e hx;exact ⟨o',(hs.2 b (Nat.ne_of_lt (Nat.lt_of_lt_of_le (Heap.lt_size e) I.ok.above))).trans e1⟩
  .by_cases hj:j=i
   .subst hj;rw[hi] at e1;cases e1;rw[List.getElem?_set_self hiσ] at e2;cases e2;exact ⟨u,r,.inl ⟨hk,by simp⟩⟩
   .rw[List.getElem?_set_ne (Ne.symm hj)] at e2;obtain ⟨u',r',q⟩:=hl j y v' e1 e2 e3;refine ⟨u',r', ?_⟩;rcases q with ⟨k,e⟩ | ⟨k,c,e,z⟩
    .refine .inl ⟨k, ?_⟩
     have:y≠x:=fun e=>hj (zi1 hN e1 (e ▸ hi))
     simp[this,e]
    .exact .inr ⟨k,c,e,z.sameBut hs (cne y c e)⟩
  .obtain ⟨w',z⟩:=I.cell y c e;exact ⟨w',z.sameBut hs (cne y c e)⟩
  .obtain ⟨e,n,ne,nf,d⟩:=I.pin p hp;exact ⟨(hs.2 p.1 ne).trans e,n,ne,nf,d⟩
 .have hfn:X.fn x=true:=by
   rcases hf with z | z
   .exact z
   .rw[z] at hk;cases hk
  obtain ⟨c,hc⟩:=I.ok.has x (.inl hk);obtain ⟨w',z⟩:=I.cell x c hc;refine wpAny_storeName_cell I.ok.kind hk hc z (fun h' hc' hs=>?_);obtain ⟨oc,hoc,hocd⟩:=id z;refine h { s with heap:=h' } ⟨I.ok,I.os,I.bare,⟨fun b o e n hb hx=>?_,fun b o e n hb hx=>?_,I.base.free,fun b o e hx=>?_,I.base.tups,I.base.frzs,I.base.tbls⟩,⟨m,hn.sameBut hs (Ne.symm (cne x c hc)),fun j y v' e1 e2 e3=>?_⟩,fun y c' e=>?_,I.free,I.freeC,fun p hp=>?_,tracked ⟨oc,hoc,I.freeC x c hc⟩ hs,by simpa using I.len⟩ ⟨c,hs,.inr hc⟩
  .exact (hs.2 b (Nat.ne_of_lt (Nat.lt_of_lt_of_le (Heap.lt_size e) (I.ok.cab x c hfn hc)))).trans (I.base.keep b o e n hb hx)
  .obtain ⟨sl,e1⟩:=I.base.slot b o e n hb hx;exact ⟨sl,(hs.2 b (Nat.ne_of_lt (Nat.lt_of_lt_of_le (Heap.lt_size e) (I.ok.cab x c hfn hc)))).trans e1⟩
  .obtain ⟨o',e1⟩:=I.base.there b o e hx;exact ⟨o',(hs.2 b (Nat.ne_of_lt (Nat.lt_of_lt_of_le (Heap.lt_size e) (I.ok.cab x c hfn hc)))).trans e1⟩
  .by_cases hj:j=i
   .subst hj;rw[hi] at e1;cases e1;rw[List.getElem?_set_self hiσ] at e2;cases e2;exact ⟨u,r,.inr ⟨.inl hk,c,hc,hc'⟩⟩
   .rw[List.getElem?_set_ne (Ne.symm hj)] at e2;obtain ⟨u',r',q⟩:=hl j y v' e1 e2 e3;refine ⟨u',r', ?_⟩;rcases q with q | ⟨k,c',e,z'⟩
    .exact .inl q
    .refine .inr ⟨k,c',e,z'.sameBut hs ?_⟩
     rintro rfl
     exact hj (zi1 hN e1 (I.ok.inj _ _ _ e hc ▸ hi))
  .by_cases hcc:c'=c
   .subst hcc;exact ⟨_,hc'⟩
   .obtain ⟨w2,z2⟩:=I.cell y c' e;exact ⟨w2,z2.sameBut hs hcc⟩
  .obtain ⟨e,n,ne,nf,d⟩:=I.pin p hp;refine ⟨(hs.2 p.1 ?_).trans e,n,ne,nf,d⟩;intro q;rw[q,hoc] at e;have q':oc=p.2:=Option.some.inj e;exact d w' (by rw[<-q'];exact hocd)
theorem zg5 {M:Model} {A:Around} {E:Value->Shared->Prop} {i:Nat} {x:Str} {v:V} {u:Value} {Q:Unit->Shared->Prop} (I:Inv X pins σ H s) (hN:X.N.Nodup) (hi:X.N[i]? = some x) (hx:Loc X.env.scope x) (r:RelV v u)
  (h:∀s',Inv X pins (σ.set i (some v)) H s'->Q () s') (hf:X.fn x=true\/X.env.scope.names.lookup x=some .local:=by first | exact .inl rfl | exact .inr rfl | assumption):wpAny M A (storeName X.env x u) Q E s:=
 zhZ I hN hi hx r (fun s' I' _=>h s' I') hf
theorem Inv.call' {s':Shared} {ch:List Addr} (I:Inv X pins σ H s) (ho:s'.os=s.os) (u:Un (frs X.stack) ch H H' s.heap s'.heap) (hok:HOk X.prog X.w H' s'.heap) (hg:AllBare s'.gens)
  (hch:∀b∈ch,(b∈X.ex\/X.s₀.heap.objs.size<=b)/\b≠X.env.locals/\(∀x c,X.env.cells.lookup x=some c->c≠b)/\∀p∈X.pn++pins,p.1≠b):Inv X pins σ H' s':=by
 obtain ⟨h',g',d',t',o'⟩:=s';have e:o'=s.os:=ho;subst e;exact I.call (g':=g') (t':=t') (d':=d') u hok hg hch
end
abbrev XK:=Value->Option Addr->Hp->Prop
abbrev St:=List (Option V)
abbrev VK:=V->Hp->Prop
abbrev TE:=St->Hp->VK->Prop
abbrev TT:=St->Hp->(Bool->Hp->Prop)->Prop
abbrev TA:=St->Hp->(List V->Hp->Prop)->Prop
structure Ends where
 nx:St->Hp->Prop
 rt:VK
 bk:St->Hp->Prop:=fun _ _=>False
 ct:St->Hp->Prop:=fun _ _=>False
abbrev TS:=Ends->St->Hp->Prop
def EP (X:Cx) (pins:List (Addr×Obj)) (σ:St) (Q:VK) (u:Value) (s':Shared):Prop:=∃v H',Inv X pins σ H' s'/\RelV v u/\Q v H'
def TP (X:Cx) (pins:List (Addr×Obj)) (σ:St) (Q:Bool->Hp->Prop) (b:Bool) (s':Shared):Prop:=∃H',Inv X pins σ H' s'/\Q b H'
def AP (X:Cx) (pins:List (Addr×Obj)) (σ:St) (Q:List V->Hp->Prop) (us:List Value) (s':Shared):Prop:=∃vs H',Inv X pins σ H' s'/\Vals vs us/\Q vs H'
def SP (X:Cx) (pins:List (Addr×Obj)) (D:Ends) (f:Flow) (s':Shared):Prop:=
 match f with
 | .next=>∃σ' H',Inv X pins σ' H' s'/\D.nx σ' H'
 | .brk=>∃σ' H',Inv X pins σ' H' s'/\D.bk σ' H'
 | .cont=>∃σ' H',Inv X pins σ' H' s'/\D.ct σ' H'
 | .ret u=>∃v σ' H',Inv X pins σ' H' s'/\RelV v u/\D.rt v H'
def PE (X:Cx) (e:Expr) (t:TE):Prop:=
 ∀(pins:List (Addr×Obj)) (s:Shared) (σ:St) (H:Hp) (Q:VK),Inv X pins σ H s->t σ H Q->wpAny (model X.prog X.w) X.A (eval e X.env) (EP X pins σ Q) X.xe s
def PT (X:Cx) (e:Expr) (t:TT):Prop:=
 ∀(pins:List (Addr×Obj)) (s:Shared) (σ:St) (H:Hp) (Q:Bool->Hp->Prop),Inv X pins σ H s->t σ H Q->wpAny (model X.prog X.w) X.A (isTrue e X.env (eval e X.env)) (TP X pins σ Q) X.xe s
def PW (X:Cx) (e:Expr) (t:TT):Prop:=
 ∀(whole:Sem Value) (pins:List (Addr×Obj)) (s:Shared) (σ:St) (H:Hp) (Q:Bool->Hp->Prop),Inv X pins σ H s->t σ H Q->wpAny (model X.prog X.w) X.A (isTrue e X.env whole) (TP X pins σ Q) X.xe s
theorem PW.pt {X:Cx} {e:Expr} {t:TT} (h:PW X e t):PT X e t:=h _
def PA (X:Cx) (es:List Expr) (t:TA):Prop:=
 ∀(pos:Pos) (pins:List (Addr×Obj)) (s:Shared) (σ:St) (H:Hp) (Q:List V->Hp->Prop),Inv X pins σ H s->t σ H Q->wpAny (model X.prog X.w) X.A (spliced (backTo pos (starEach es X.env))) (AP X pins σ Q) X.xe s
def PS (X:Cx) (st:Stmt) (t:TS):Prop:=
 ∀(pins:List (Addr×Obj)) (s:Shared) (σ:St) (H:Hp) (D:Ends),Inv X pins σ H s->t D σ H->wpAny (model X.prog X.w) X.A (exec st X.env) (SP X pins D) X.xe s
def PSs (X:Cx) (st:List Stmt) (t:TS):Prop:=
 ∀(pins:List (Addr×Obj)) (s:Shared) (σ:St) (H:Hp) (D:Ends),Inv X pins σ H s->t D σ H->wpAny (model X.prog X.w) X.A (execs st X.env) (SP X pins D) X.xe s
theorem thn {α:Type} {t:Sem α} {Q Q':α->Shared->Prop} {M:Model} {A:Around} {E:Value->Shared->Prop} {s:Shared} (h:wpAny M A t Q E s) (hQ:∀a s,Q a s->Q' a s):wpAny M A t Q' E s:=wpAny_mono h hQ fun _ _ x=>x
section
variable {X:Cx}
def tVar (i:Nat):TE:=fun σ H Q=>∃v,σ[i]? = some (some v)/\Q v H
def tC (v:V):TE:=fun _ H Q=>Q v H
theorem zso {i:Nat} {x:Str} {pos:Pos} (hN:X.N[i]? = some x) (hv:Vis X.env.scope x) (hd:(x==("__debug__":Str))=false:=by decide) (hcd:(x==("__classdict__":Str))=false:=by decide):PE X (.Name x pos) (tVar i):=by
 intro pins s σ H Q I h;obtain ⟨v,e,h⟩:=h;obtain ⟨m,hn,hl⟩:=I.loc;obtain ⟨u,r,l⟩:=hl i x v hN e hv;have fin:EP X pins σ Q u s:=⟨v,H,I,r,h⟩;rcases l with ⟨hk,hm⟩ | ⟨hk,c,hc,hcell⟩
 .exact wpAny_Name (wpAny_loadName_local I.ok.kind hk hn hm fin) hd
 .rcases hk with hk | hk
  .exact wpAny_Name (wpAny_loadName_cell I.ok.kind hk hc hcell fin) hd
  .exact wpAny_Name (wpAny_loadName_free I.ok.kind hk hc hcell fin hcd) hd
theorem zn3 {i j pos}:PE X (.Constant (.int i) j pos) (tC (.int i)):=fun _ _ _ H _ I h=>wpAny_Constant_int ⟨.int i,H,I.tok _,⟨_,rfl⟩,h⟩
theorem zt7 {b j pos}:PE X (.Constant (.bool b) j pos) (tC (.bl b)):=fun _ _ _ H _ I h=>Constant_bool ⟨.bl b,H,I,rfl,h⟩
theorem zq9 {j pos}:PE X (.Constant .none j pos) (tC .non):=fun _ _ _ H _ I h=>Constant_none ⟨.non,H,I,rfl,h⟩
theorem zql {x j pos}:PE X (.Constant (.str x) j pos) (tC (.str x)):=fun _ _ _ H _ I h=>Calls.Constant_str ⟨.str x,H,I.tok _,⟨_,rfl⟩,h⟩
def Gl (X:Cx) (x:Str):Prop:=X.env.kindOf x=some .globalImplicit
theorem zlF {E:Value->Shared->Prop} {pins:List (Addr×Obj)} {s:Shared} {σ:St} {H:Hp} {x:Str} {u:Value} {pos:Pos} {Q:Value->Shared->Prop} (I:Inv X pins σ H s) (hg:Gl X x) (hm:X.mg x=some u) (h:Q u s)
  (hd:(x==("__debug__":Str))=false:=by decide):wpAny (model X.prog X.w) X.A (eval (.Name x pos) X.env) Q E s:=
 Calls.Name_function_global I.ok.kind hg (Calls.loadGlobal_global (by rw[I.ok.glob];exact I.mod.glob.keeps I.bk) hm h) hd
theorem zgR {E:Value->Shared->Prop} {pins:List (Addr×Obj)} {s:Shared} {σ:St} {H:Hp} {x:Str} {u:Value} {pos:Pos} {Q:Value->Shared->Prop} (I:Inv X pins σ H s) (hg:Gl X x) (hm:X.mg x=none) (hv:bootBuiltins x=some u) (h:Q u s)
  (hn:x≠"__name__":=by decide) (hd:(x==("__debug__":Str))=false:=by decide):wpAny (model X.prog X.w) X.A (eval (.Name x pos) X.env) Q E s:=by
 obtain ⟨mb,h1,h2⟩:=I.mod.blt;exact Calls.Name_function_global I.ok.kind hg (Calls.loadGlobal_builtin (by rw[I.ok.glob];exact I.mod.glob.keeps I.bk) hm (by rw[I.ok.blt];exact h1.keeps I.bk) ((h2 x hn).trans hv) h) hd
theorem zoV {x:Str} {v:V} {u:Value} {pos:Pos} (hg:Gl X x) (hm:X.mg x=some u) (r:RelV v u) (hd:(x==("__debug__":Str))=false:=by decide):PE X (.Name x pos) (tC v):=
 fun _ _ _ H _ I h=>zlF I hg hm ⟨v,H,I,r,h⟩ hd
variable {a b:Expr} {ta tb:TE} {pos:Pos}
variable {tA tB':TT} {rest:List Expr}
def tAnd (t u:TT):TT:=fun σ H Q=>t σ H fun c H1=>if c=true then u σ H1 Q else Q false H1
def tOr (t u:TT):TT:=fun σ H Q=>t σ H fun c H1=>if c=true then Q true H1 else u σ H1 Q
def tNot (t:TT):TT:=fun σ H Q=>t σ H fun c H1=>Q (!c) H1
theorem zpu (ha:PT X a tA):PW X (.BoolOp .And [a] pos) tA:=by
 intro wh pins s σ H Q I h;refine isTrue_and (thn (ha pins s σ H Q I h) fun c s1 e=>?_)
 cases c with
 | true=>exact isTrue_and_nil e
 | false=>exact e
theorem zqU (ha:PT X a tA):PW X (.BoolOp .Or [a] pos) tA:=by
 intro wh pins s σ H Q I h;refine isTrue_or (thn (ha pins s σ H Q I h) fun c s1 e=>?_)
 cases c with
 | false=>exact isTrue_or_nil e
 | true=>exact e
theorem zrx (ha:PT X a tA) (hb:PW X (.BoolOp .And (b::rest) pos) tB'):PW X (.BoolOp .And (a::b::rest) pos) (tAnd tA tB'):=by
 intro wh pins s σ H Q I h;refine isTrue_and (thn (ha pins s σ H _ I h) fun c s1 hx__=>?_);obtain ⟨H1,I1,q1⟩:=hx__
 cases c with
 | true=>exact hb wh pins s1 σ H1 Q I1 q1
 | false=>exact ⟨H1,I1,q1⟩
theorem zuh (ha:PT X a tA) (hb:PW X (.BoolOp .Or (b::rest) pos) tB'):PW X (.BoolOp .Or (a::b::rest) pos) (tOr tA tB'):=by
 intro wh pins s σ H Q I h;refine isTrue_or (thn (ha pins s σ H _ I h) fun c s1 hx__=>?_);obtain ⟨H1,I1,q1⟩:=hx__
 cases c with
 | true=>exact ⟨H1,I1,q1⟩
 | false=>exact hb wh pins s1 σ H1 Q I1 q1
theorem zr1 (ha:PT X a tA):PT X (.UnaryOp .Not a pos) (tNot tA):=by
 intro pins s σ H Q I h;exact isTrue_not (ha pins s σ H (fun c H1=>Q (!c) H1) I h)
def zui (ta tb:TE):TE:=fun σ H Q=>ta σ H fun x H1=>∃c,x=.bl c/\if c=true then tb σ H1 Q else Q (.bl false) H1
def tOrV (ta tb:TE):TE:=fun σ H Q=>ta σ H fun x H1=>∃c,x=.bl c/\if c=true then Q (.bl true) H1 else tb σ H1 Q
theorem zr5 {op} {t:TE} (h:PE X a t):PE X (.BoolOp op [a] pos) t:=fun pins s σ H Q I hw=>BoolOp_one (h pins s σ H Q I hw)
theorem zsm (ha:PE X a ta) (hb:PE X (.BoolOp .And (b::rest) pos) tb):PE X (.BoolOp .And (a::b::rest) pos) (zui ta tb):=by
 intro pins s σ H Q I h;refine BoolOp_and (thn (ha pins s σ H _ I h) fun v s1 hx__=>?_);obtain ⟨x,H1,I1,r1,q1⟩:=hx__;obtain ⟨c,rfl,q1⟩:=q1;cases r1;refine wpAny_truthy_bool ?_
 cases c with
 | true=>exact hb pins s1 σ H1 Q I1 q1
 | false=>exact ⟨.bl false,H1,I1,rfl,q1⟩
theorem ztK (ha:PE X a ta) (hb:PE X (.BoolOp .Or (b::rest) pos) tb):PE X (.BoolOp .Or (a::b::rest) pos) (tOrV ta tb):=by
 intro pins s σ H Q I h;refine BoolOp_or (thn (ha pins s σ H _ I h) fun v s1 hx__=>?_);obtain ⟨x,H1,I1,r1,q1⟩:=hx__;obtain ⟨c,rfl,q1⟩:=q1;cases r1;refine wpAny_truthy_bool ?_
 cases c with
 | false=>exact hb pins s1 σ H1 Q I1 q1
 | true=>exact ⟨.bl true,H1,I1,rfl,q1⟩
def tIf (t:TT) (ta tb:TE):TE:=fun σ H Q=>t σ H fun c H1=>if c=true then ta σ H1 Q else tb σ H1 Q
theorem zmQ {c:Expr} (hc:PT X c tA) (ha:PE X a ta) (hb:PE X b tb):PE X (.IfExp c a b pos) (tIf tA ta tb):=by
 intro pins s σ H Q I h;refine wpAny_IfExp (thn (hc pins s σ H _ I h) fun d s1 hx__=>?_);obtain ⟨H1,I1,q1⟩:=hx__
 cases d with
 | true=>exact ha pins s1 σ H1 Q I1 q1
 | false=>exact hb pins s1 σ H1 Q I1 q1
end
def SqL (K:PySem.W.Frag) (H:Hp) (a:Addr) (xs:List V):Prop:=
 Rd H a (.lst xs)\/
  ∃(o:Obj) (its:Array Value) (n:Nat),K.lookup a=some o/\o.cls=.type "list"/\o.dict=none/\o.data=.seq its n/\its.size<=sizeLine/\Vals xs its.toList
def SqT (K:PySem.W.Frag) (H:Hp) (a:Addr) (xs:List V):Prop:=
 Rd H a (.tup xs)\/
  ∃(o:Obj) (its:Array Value) (n:Nat),K.lookup a=some o/\o.cls=.type "tuple"/\o.data=.seq its n/\its.size<=sizeLine/\Vals xs its.toList
def absV:Value->Option V
 | .none=>some .non
 | .bool b=>some (.bl b)
 | .int i _=>some (.int i)
 | .str x _=>some (.str x)
 | .bytes b _=>some (.byt b)
 | .float b _=>some (.flt b)
 | .ref a=>some (.ref a)
 | .type n=>some (.ty n)
 | _=>none
theorem RelV.abs {x:V} {u:Value} (r:RelV x u):absV u=some x:=by
 cases x with
 | non=>cases r;rfl
 | bl _=>cases r;rfl
 | int _=>obtain ⟨t,rfl⟩:=r;rfl
 | str _=>obtain ⟨t,rfl⟩:=r;rfl
 | byt _=>obtain ⟨t,rfl⟩:=r;rfl
 | flt _=>obtain ⟨t,rfl⟩:=r;rfl
 | ref _=>cases r;rfl
 | ty _=>cases r;rfl
theorem RelV.inj {x y:V} {u:Value} (r:RelV x u) (q:RelV y u):x=y:=Option.some.inj (r.abs.symm.trans q.abs)
theorem Vals.inj {xs ys:List V} {us:List Value} (h:Vals xs us):Vals ys us->xs=ys:=by
 induction h generalizing ys with
 | nil=>intro g;cases g;rfl
 | cons r t ih=>
  intro g
  cases g with
  | cons r' t'=>rw[r.inj r',ih t']
section
variable {X:Cx} {pins:List (Addr×Obj)} {σ:St} {H:Hp} {s:Shared} {a:Addr} {xs ys:List V}
theorem SqL.of {K:PySem.W.Frag} (h:H a=some (.lst xs)):SqL K H a xs:=.inl (.inl h)
theorem SqT.of {K:PySem.W.Frag} (h:H a=some (.tup xs)):SqT K H a xs:=.inl (.inl h)
theorem Inv.list (I:Inv X pins σ H s) (h:SqL X.K H a xs):∃its:List Value,Vals xs its/\PlainL s.heap a its.toArray/\xs.length<=sizeLine:=by
 rcases h with h | ⟨o,its,n,hk,hc,hd,hs,hz,r⟩
 .obtain ⟨z,its,n,r,e⟩:=h.ok I.hok;exact ⟨its,r,⟨_,n,e,rfl,rfl,rfl⟩,z⟩
 .refine ⟨its.toList,r,⟨o,n,I.kIn a o hk,hc,hd,by simpa using hs⟩, ?_⟩;have e:=r.length;simp only[Array.length_toList] at e;omega
theorem Inv.tuple (I:Inv X pins σ H s) (h:SqT X.K H a xs):∃its:List Value,Vals xs its/\IsTup s.heap a its.toArray/\xs.length<=sizeLine:=by
 rcases h with h | ⟨o,its,n,hk,hc,hs,hz,r⟩
 .obtain ⟨z,its,r,p⟩:=h.ok I.hok;exact ⟨its,r,p,z⟩
 .refine ⟨its.toList,r,⟨o,I.kIn a o hk,hc,n,by simpa using hs⟩, ?_⟩;have e:=r.length;simp only[Array.length_toList] at e;omega
theorem Inv.list_inj (I:Inv X pins σ H s) (h:SqL X.K H a xs) (h':SqL X.K H a ys):xs=ys:=by
 obtain ⟨its,r,⟨o,n,e,_,_,d⟩,_⟩:=I.list h;obtain ⟨its',r',⟨o',n',e',_,_,d'⟩,_⟩:=I.list h';rw[e] at e';cases e';rw[d] at d'
 injection d' with d1 _
 have:its=its':=by simpa using congrArg Array.toList d1
 subst this;exact r.inj r'
theorem Inv.tuple_inj (I:Inv X pins σ H s) (h:SqT X.K H a xs) (h':SqT X.K H a ys):xs=ys:=by
 obtain ⟨its,r,⟨o,e,_,n,d⟩,_⟩:=I.tuple h;obtain ⟨its',r',⟨o',e',_,n',d'⟩,_⟩:=I.tuple h';rw[e] at e';cases e';rw[d] at d'
 injection d' with d1 _
 have:its=its':=by simpa using congrArg Array.toList d1
 subst this;exact r.inj r'
end
abbrev Cx.wish (X:Cx) (E:Value->Shared->Prop):Cx:={ X with xe:=E }
abbrev Cx.nox (X:Cx):Cx:=X.wish fun _ _=>False
theorem Cx.Ok.wish {X:Cx} (ok:X.Ok) (E:Value->Shared->Prop):(X.wish E).Ok:=
 ⟨ok.mod,ok.kind,ok.glob,ok.blt,ok.above,ok.inj,ok.has,ok.cab,ok.hd,ok.frames,ok.stk,ok.exf,ok.bs,ok.bsz,ok.noex,ok.exfs,ok.funs,ok.frf⟩
theorem Cx.Ok.unwish {X:Cx} {E:Value->Shared->Prop} (ok:(X.wish E).Ok):X.Ok:=
 ⟨ok.mod,ok.kind,ok.glob,ok.blt,ok.above,ok.inj,ok.has,ok.cab,ok.hd,ok.frames,ok.stk,ok.exf,ok.bs,ok.bsz,ok.noex,ok.exfs,ok.funs,ok.frf⟩
section
variable {X:Cx} {pins:List (Addr×Obj)} {σ:St} {H:Hp} {s:Shared} {E:Value->Shared->Prop}
theorem Inv.wish (I:Inv X pins σ H s) (E:Value->Shared->Prop):Inv (X.wish E) pins σ H s:=⟨I.ok.wish E,I.os,I.bare,I.base,I.loc,I.cell,I.free,I.freeC,I.pin,I.hok,I.len⟩
theorem Inv.unwish (I:Inv (X.wish E) pins σ H s):Inv X pins σ H s:=⟨I.ok.unwish,I.os,I.bare,I.base,I.loc,I.cell,I.free,I.freeC,I.pin,I.hok,I.len⟩
theorem SP.unwish {D:Ends} {f:Flow} {s':Shared} (h:SP (X.wish E) pins D f s'):SP X pins D f s':=by
 cases f with
 | next=>obtain ⟨σ',H',I,q⟩:=h;exact ⟨σ',H',I.unwish,q⟩
 | brk=>obtain ⟨σ',H',I,q⟩:=h;exact ⟨σ',H',I.unwish,q⟩
 | cont=>obtain ⟨σ',H',I,q⟩:=h;exact ⟨σ',H',I.unwish,q⟩
 | ret u=>obtain ⟨v,σ',H',I,r,q⟩:=h;exact ⟨v,σ',H',I.unwish,r,q⟩
theorem PSs.nox {st:List Stmt} {t:TS} (h:PSs X.nox st t):PSs X st t:=fun pins s σ H D I hw=>
 wpAny_mono (h pins s σ H D (I.wish _) hw) (fun _ _ q=>q.unwish) fun _ _ z=>False.elim z
end
section
variable {X:Cx} {st:Stmt} {rest:List Stmt} {t u:TS} {e:Expr} {te:TE} {pos:Pos}
def ztY:TS:=fun D σ H=>D.nx σ H
def tSeq (t u:TS):TS:=fun D σ H=>t { D with nx:=u D } σ H
theorem pss_nil:PSs X [] ztY:=fun _ _ σ H _ I h=>wpAny_execs_nil ⟨σ,H,I,h⟩
theorem zmS (h1:PS X st t) (h2:PSs X rest u):PSs X (st::rest) (tSeq t u):=by
 intro pins s σ H D I h;refine wpAny_execs_cons (thn (h1 pins s σ H { D with nx:=u D } I h) fun f s1 q=>?_)
 cases f with
 | next=>
  obtain ⟨σ',H',I',q⟩:=q;exact h2 pins s1 σ' H' D I' q
 | ret v=>exact q
 | brk=>exact q
 | cont=>exact q
theorem zoO (h1:PS X st t):PSs X [st] t:=by
 intro pins s σ H D I h;refine wpAny_execs_cons (thn (h1 pins s σ H D I h) fun f s1 q=>?_)
 cases f with
 | next=>exact wpAny_execs_nil q
 | ret v=>exact q
 | brk=>exact q
 | cont=>exact q
def zp6:TS:=fun D σ H=>D.bk σ H
theorem ps_break:PS X (.Break pos) zp6:=fun _ _ σ H _ I h=>wpAny_Break ⟨σ,H,I,h⟩
theorem Inv.quiet {pins:List (Addr×Obj)} {σ:St} {H:Hp} {s:Shared} (I:Inv X pins σ H s):interactive X.env=false:=by simp[interactive,I.ok.kind]
def ztg (te:TE):TS:=fun D σ H=>te σ H fun _ H1=>D.nx σ H1
theorem zpo (he:PE X e te) (hs:swapsWith e none pos.line X.env=pure false:=by rfl):PS X (.Expr e pos) (ztg te):=by
 intro pins s σ H D I h;exact wpAny_Expr_any (thn (he pins s σ H _ I h) fun v s1 ⟨x,H1,I1,r1,q1⟩=>⟨σ,H1,I1,q1⟩) I.quiet hs
def tRet (te:TE):TS:=fun D σ H=>te σ H D.rt
theorem zq4 (he:PE X e te):PS X (.Return (some e) pos) (tRet te):=by
 intro pins s σ H D I h;exact wpAny_Return_some (thn (he pins s σ H _ I h) fun v s1 ⟨x,H1,I1,r1,q1⟩=>⟨x,σ,H1,I1,r1,q1⟩)
def tIfS (c:TT) (t u:TS):TS:=fun D σ H=>c σ H fun b H1=>if b=true then t D σ H1 else u D σ H1
theorem ztM {c:Expr} {a b:List Stmt} {tc:TT} (hc:PT X c tc) (ha:PSs X a t) (hb:PSs X b u):PS X (.If c a b pos) (tIfS tc t u):=by
 intro pins s σ H D I h;refine wpAny_If (thn (hc pins s σ H _ I h) fun d s1 hx__=>?_);obtain ⟨H1,I1,q1⟩:=hx__
 cases d with
 | true=>exact ha pins s1 σ H1 D I1 q1
 | false=>exact hb pins s1 σ H1 D I1 q1
end
abbrev TG:=V->St->Hp->(St->Hp->Prop)->Prop
abbrev TGs:=List V->St->Hp->(St->Hp->Prop)->Prop
def PG (X:Cx) (target:Expr) (t:TG):Prop:=
 ∀(pins:List (Addr×Obj)) (s:Shared) (σ:St) (H:Hp) (v:V) (u:Value) (Q:St->Hp->Prop),Inv X pins σ H s->RelV v u->t v σ H Q->
  wpAny (model X.prog X.w) X.A (assign target X.env u) (fun _ s'=>∃σ' H',Inv X pins σ' H' s'/\Q σ' H') X.xe s
def PGs (X:Cx) (ts:List Expr) (t:TGs):Prop:=
 ∀(pins:List (Addr×Obj)) (s:Shared) (σ:St) (H:Hp) (vs:List V) (us:List Value) (Q:St->Hp->Prop),Inv X pins σ H s->Vals vs us->t vs σ H Q->
  wpAny (model X.prog X.w) X.A (assignInOrder ((assignEach ts X.env).map (·.2)) us) (fun _ s'=>∃σ' H',Inv X pins σ' H' s'/\Q σ' H') X.xe s
abbrev TSet:=V->V->V->Hp->(Hp->Prop)->Prop
def PSet (X:Cx) (t:TSet):Prop:=
 ∀(pins:List (Addr×Obj)) (s:Shared) (σ:St) (H:Hp) (o i v:V) (ov iv u:Value) (Q:Hp->Prop),Inv X pins σ H s->RelV o ov->RelV i iv->RelV v u->t o i v H Q->
  wpAny (model X.prog X.w) X.A (setItem ov iv u) (fun _ s'=>∃H',Inv X pins σ H' s'/\Q H') X.xe s
abbrev TIp:=V->V->Hp->VK->Prop
def PIp (X:Cx) (op:Operator) (t:TIp):Prop:=
 ∀(pins:List (Addr×Obj)) (s:Shared) (σ:St) (H:Hp) (x y:V) (v u:Value) (Q:VK),Inv X pins σ H s->RelV x v->RelV y u->t x y H Q->
  wpAny (model X.prog X.w) X.A (inplaceOp op v u) (EP X pins σ Q) X.xe s
section
variable {X:Cx} {pos:Pos}
def zkk (i:Nat):TG:=fun v σ H Q=>Q (σ.set i (some v)) H
theorem zbM {i:Nat} {x:Str} (hN:X.N.Nodup) (hi:X.N[i]? = some x) (hx:Loc X.env.scope x) (hf:X.fn x=true\/X.env.scope.names.lookup x=some .local:=by first | exact .inl rfl | exact .inr rfl | assumption):PG X (.Name x pos) (zkk i):=by
 intro pins s σ H v u Q I r h;exact wpAny_assign_Name (zg5 I hN hi hx r (fun s' I'=>⟨_,H,I',h⟩) hf)
def gNil:TGs:=fun vs σ H Q=>vs=[]/\Q σ H
def zts (t:TG) (u:TGs):TGs:=fun vs σ H Q=>∃v r,vs=v::r/\t v σ H fun σ' H'=>u r σ' H' Q
theorem zoX:PGs X [] gNil:=by
 intro pins s σ H vs us Q I r h;obtain ⟨e,h⟩:=h;subst e;cases r;exact assignInOrder_nil ⟨σ,H,I,h⟩
theorem zmT {e:Expr} {es:List Expr} {t:TG} {u:TGs} (h1:PG X e t) (h2:PGs X es u)
  (hs:(assignEach (e::es) X.env).map (·.2)=assign e X.env::(assignEach es X.env).map (·.2):=by rfl):PGs X (e::es) (zts t u):=by
 intro pins s σ H vs us Q I r h;obtain ⟨v,vr,e1,h⟩:=h;subst e1
 cases r with
 | cons r rr=>
  rw[hs];refine assignInOrder_cons (thn (h1 pins s σ H _ _ _ I r h) fun _ s1 hx__=>?_);obtain ⟨σ1,H1,I1,q1⟩:=hx__;exact h2 pins s1 σ1 H1 _ _ Q I1 rr q1
def gTup (K:PySem.W.Frag) (n:Nat) (t:TGs):TG:=fun v σ H Q=>∃a xs,v=.ref a/\SqT K H a xs/\xs.length=n/\t xs σ H Q
theorem zrI {es:List Expr} {k:Nat} {t:TGs} {n:Nat} (hc:X.calm=true) (h:PGs X es t)
  (hn:(assignEach es X.env).length=n:=by rfl) (hst:(assignEach es X.env).findIdx? (·.1)=none:=by rfl):PG X (.Tuple es k pos) (gTup X.K n t):=by
 intro pins s σ H v u Q I r hw;obtain ⟨a,xs,e1,hq,hl,hw⟩:=hw;subst e1;cases r;obtain ⟨its,rv,ht,hz⟩:=I.tuple hq;refine assign_Tuple_tuple (I.ok.hd hc) ht (by simp[hn,<-hl,rv.length]) hst fun h' hx=>?_
 have I1:Inv X pins σ H { s with heap:=h' }:=I.kept (t':=s.toks) fun b o e=>hx b o (Nat.ne_of_lt (Heap.lt_size e)) e
 exact h pins _ σ H xs _ Q I1 (by simpa using rv) hw
def gSub (to ti:TE) (t:TSet):TG:=fun v σ H Q=>to σ H fun o H1=>ti σ H1 fun i H2=>t o i v H2 fun H3=>Q σ H3
theorem zsq {o i:Expr} {to ti:TE} {t:TSet} (ho:PE X o to) (hi:PE X i ti) (hs:PSet X t)
  (ha:∀v,assign (.Subscript o i pos) X.env v=(do
   let ov <-holding [v] (eval o X.env)
   let iv <-holding [v,ov] (eval i X.env)
   standAt pos
   holding [v,ov,iv] (setItem ov iv v)
   release [v,ov,iv] []):=by intro _;rfl):PG X (.Subscript o i pos) (gSub to ti t):=by
 intro pins s σ H v u Q I r h;rw[ha];refine wpAny_bind (wpAny_holding (thn (ho pins s σ H _ I h) fun ov s1 hx__=>?_));obtain ⟨x,H1,I1,r1,q1⟩:=hx__;refine wpAny_bind (wpAny_holding (thn (hi pins s1 σ H1 _ I1 q1) fun iv s2 hx__=>?_));obtain ⟨y,H2,I2,r2,q2⟩:=hx__;refine wpAny_bind (wpAny_standAt (wpAny_bind (wpAny_holding (thn (hs pins s2 σ H2 x y v ov iv u _ I2 r1 r2 r q2) fun _ s3 hx__=>?_))));obtain ⟨H3,I3,q3⟩:=hx__;exact wpAny_release ⟨σ,H3,I3,q3⟩
def tAsg (te:TE) (g:TG):TS:=fun D σ H=>te σ H fun x H1=>g x σ H1 D.nx
theorem znO {tg e:Expr} {te:TE} {g:TG} (he:PE X e te) (hg:PG X tg g) (hs:swapsWithSole [tg] e pos.line X.env=pure false:=by rfl) (hw:swappedStores [tg] e X.env=pure none:=by rfl)
  (h1:(assignEach [tg] X.env).map (·.2)=[assign tg X.env]:=by rfl):PS X (.Assign [tg] e pos) (tAsg te g):=by
 intro pins s σ H D I h;refine wpAny_Assign_stores (thn (he pins s σ H _ I h) fun v s1 ⟨x,H1,I1,r1,q1⟩=>?_) hs hw;rw[h1];exact thn (hg pins s1 σ H1 x v _ I1 r1 q1) fun _ s2 q=>q
theorem zrV {i:Nat} {x:Str} {e:Expr} {te:TE} {pos':Pos} (hN:X.N.Nodup) (hi:X.N[i]? = some x) (hx:Loc X.env.scope x) (he:PE X e te) (hs:swapsWith e (some (.Name x pos')) pos.line X.env=pure false:=by rfl) (hf:X.fn x=true\/X.env.scope.names.lookup x=some .local:=by first | exact .inl rfl | exact .inr rfl | assumption) :
  PS X (.Assign [.Name x pos'] e pos) (tAsg te (zkk i)):=by
 intro pins s σ H D I h;refine wpAny_Assign_Name (thn (he pins s σ H _ I h) fun v s1 ⟨y,H1,I1,r1,q1⟩=>?_) hs;exact zg5 I1 hN hi hx r1 (fun s2 I2=>⟨_,H1,I2,q1⟩) hf
def tAug (i:Nat) (te:TE) (ti:TIp):TS:=fun D σ H=>∃x,σ[i]? = some (some x)/\te σ H fun y H1=>ti x y H1 fun z H2=>D.nx (σ.set i (some z)) H2
theorem zru {i:Nat} {x:Str} {e:Expr} {te:TE} {op:Operator} {ti:TIp} {pos':Pos} (hN:X.N.Nodup) (hi:X.N[i]? = some x) (hx:Loc X.env.scope x) (he:PE X e te) (ho:PIp X op ti) (hf:X.fn x=true\/X.env.scope.names.lookup x=some .local:=by first | exact .inl rfl | exact .inr rfl | assumption) :
  PS X (.AugAssign (.Name x pos') op e pos) (tAug i te ti):=by
 intro pins s σ H D I h;obtain ⟨v,e1,h⟩:=h;obtain ⟨m,hn,hl⟩:=I.loc;have vis:Vis X.env.scope x:=by rcases hx with k | k;exact .inl k;exact .inr (.inl k)
 obtain ⟨u,r,l⟩:=hl i x v hi e1 vis;refine wpAny_AugAssign_Name ?_;have go:wpAny (model X.prog X.w) X.A (eval e X.env) (fun w s₂=>wpAny (model X.prog X.w) X.A (inplaceOp op u w) (fun r s₃=>wpAny (model X.prog X.w) X.A (storeName X.env x r) (fun _=>SP X pins D .next) X.xe s₃) X.xe s₂) X.xe s:=by
  refine thn (he pins s σ H _ I h) fun w s1 hx__=>?_
  obtain ⟨y,H1,I1,r1,q1⟩:=hx__;refine thn (ho pins s1 σ H1 v y u w _ I1 r r1 q1) fun z s2 hx__=>?_
  obtain ⟨zv,H2,I2,r2,q2⟩:=hx__;exact zg5 I2 hN hi hx r2 (fun s3 I3=>⟨_,H2,I3,q2⟩) hf
 rcases l with ⟨hk,hm⟩ | ⟨hk,c,hc,hcell⟩
 .exact wpAny_loadName_local I.ok.kind hk hn hm go
 .rcases hk with hk | hk
  .exact wpAny_loadName_cell I.ok.kind hk hc hcell go
  .rcases hx with k | k
   .have:X.env.scope.names.lookup x=some .free:=hk
    rw[k] at this;cases this
   .have:X.env.scope.names.lookup x=some .free:=hk
    rw[k] at this;cases this
def ipI (f:Int->Int->Int):TIp:=fun x y H Q=>∃i j,x=.int i/\y=.int j/\Q (.int (f i j)) H
theorem zn6:PIp X .Add (ipI fun i j=>i+j):=by
 intro pins s σ H x y v u Q I r1 r2 h;obtain ⟨i,j,e1,e2,q⟩:=h;subst e1;subst e2;obtain ⟨t,rfl⟩:=r1;obtain ⟨t',rfl⟩:=r2;exact iadd_int ⟨.int _,H,I.tok _,⟨_,rfl⟩,q⟩
end
section
variable {X:Cx} {pos:Pos}
def zsd (c:TT) (tb:TS):TS:=fun D σ H=>∃W:Nat->St->Hp->Prop,(∃m,W m σ H)/\∀m σ H,W m σ H->
 c σ H fun b H1=>if b=true then ∃N:St->Hp->Prop,(∀σ' H',N σ' H'->∃m',m' < m/\W m' σ' H')/\tb { D with nx:=N,ct:=N,bk:=D.nx } σ H1 else D.nx σ H1
theorem zmM {c:Expr} {body:List Stmt} {tc:TT} {tb:TS} (hp:PassesOwn (model X.prog X.w) X.A X.env X.xe) (hc:PT X c tc) (hb:PSs X body tb):PS X (.While c body [] pos) (zsd tc tb):=by
 intro pins s σ H D I h;obtain ⟨W,⟨m0,w0⟩,turn⟩:=h;refine wpAny_While (codeAny_whileLoop (fun n s'=>∃σ' H',Inv X pins σ' H' s'/\W n σ' H') ?_ m0 ⟨σ,H,I,w0⟩)
 rintro n s1 ⟨σ1,H1,I1,w1⟩
 refine wpAny_passesOwn hp (thn (hc pins s1 σ1 H1 _ I1 (turn n σ1 H1 w1)) fun b s2 hx__=>?_);obtain ⟨H2,I2,q2⟩:=hx__
 cases b with
 | true=>
  obtain ⟨N,hN,q2⟩:=q2;rw[if_pos rfl];refine wpAny_passesOwn hp (thn (hb pins s2 σ1 H2 _ I2 q2) fun f s3 q3=>?_)
  cases f with
  | next=>
   obtain ⟨σ3,H3,I3,n3⟩:=q3;obtain ⟨m',hm,w3⟩:=hN σ3 H3 n3;exact ⟨m',hm,σ3,H3,I3,w3⟩
  | cont=>
   obtain ⟨σ3,H3,I3,n3⟩:=q3;obtain ⟨m',hm,w3⟩:=hN σ3 H3 n3;exact ⟨m',hm,σ3,H3,I3,w3⟩
  | brk=>exact q3
  | ret v=>exact q3
 | false=>
  rw[if_neg Bool.false_ne_true];exact wpAny_execs_nil ⟨σ1,H2,I2,q2⟩
end
structure It where
 go:Nat->Hp->Prop
 yld:Nat->Hp->V->Hp->Prop
 stop:Nat->Hp->Prop
def FpOk (X:Cx) (pins:List (Addr×Obj)) (H:Hp) (b:Addr):Prop:=
 H b=none/\b≠X.env.locals/\b∉X.fs/\(b∈X.ex\/X.s₀.heap.objs.size<=b)/\(∀x c,X.env.cells.lookup x=some c->c≠b)/\∀p∈X.pn++pins,p.1≠b
theorem Inv.fpOk {X:Cx} {pins:List (Addr×Obj)} {σ:St} {H H':Hp} {s:Shared} {b:Addr} (I:Inv X pins σ H s) (hb:s.heap.objs.size<=b) (hn:H' b=none):FpOk X pins H' b:=by
 refine ⟨hn,Nat.ne_of_gt (Nat.lt_of_lt_of_le I.lt hb),I.nofs hb,.inr (Nat.le_trans I.sz hb),fun x c e z=>?_,fun p hp z=>?_⟩
 .obtain ⟨v,q⟩:=I.cell x c e;exact absurd (Nat.lt_of_lt_of_le q.lt (by rw[z];exact hb)) (Nat.lt_irrefl _)
 .exact absurd (Nat.lt_of_lt_of_le (Heap.lt_size (I.pin p hp).1) (by rw[z];exact hb)) (Nat.lt_irrefl _)
structure Turn (P:Program) (w:World) (K:PySem.W.Frag) (tg:Expr) (J:It) (fp:List Addr) (it:Addr) (tn:Nat->Heap->Prop):Prop where
 mem:it∈fp
 obj:∀i h,tn i h->∀b∈fp,∃o,h.get? b=some o/\∀v,o.data≠.cell v
 keep:∀i h h',tn i h->(∀b∈fp,∀o,h.get? b=some o->h'.get? b=some o)->tn i h'
 item:∀(X:Cx),X.prog=P->X.w=w->X.K=K->X.calm=true->∀(i:Nat) (pins:List (Addr×Obj)) (s:Shared) (σ:St) (H:Hp) (E:Value->Shared->Prop),Inv X pins σ H s->(∀b∈fp,FpOk X pins H b)->tn i s.heap->J.go i H->
  wpAny (model P w) X.A (pyNext (.ref it)) (fun r s1=>∃u,r=some u/\
   wpAny (model P w) X.A (letOwnedTupleGo tg (.ref it) u) (fun _ s2=>∃x H',Inv X pins σ H' s2/\RelV x u/\J.yld i H x H'/\tn (i+1) s2.heap/\∀b∈fp,H' b=none) E s1) E s
 done:∀(X:Cx),X.prog=P->X.w=w->X.K=K->X.calm=true->∀(i:Nat) (pins:List (Addr×Obj)) (s:Shared) (σ:St) (H:Hp) (E:Value->Shared->Prop),Inv X pins σ H s->(∀b∈fp,FpOk X pins H b)->tn i s.heap->J.stop i H->
  wpAny (model P w) X.A (pyNext (.ref it)) (fun r s1=>r=none/\Inv X pins σ H s1) E s
 self:∀(A:Around) (i:Nat) (s:Shared) (Q:Value->Shared->Prop) (E:Value->Shared->Prop),tn i s.heap->Q (.ref it) s->wpAny (model P w) A (pyIter (.ref it)) Q E s
abbrev TI:=St->Hp->(It->Hp->Prop)->Prop
def PIE (X:Cx) (pins:List (Addr×Obj)) (σ:St) (tg:Expr) (R:It->Hp->Prop) (itv:Value) (s2:Shared):Prop:=
 ∃(it:Addr) (fp:List Addr) (tn:Nat->Heap->Prop) (J:It) (H':Hp),itv=.ref it/\Inv X pins σ H' s2/\Turn X.prog X.w X.K tg J fp it tn/\tn 0 s2.heap/\(∀b∈fp,FpOk X pins H' b)/\R J H'
def PI (X:Cx) (tg iter:Expr) (wi:TI):Prop:=
 ∀(pins:List (Addr×Obj)) (s:Shared) (σ:St) (H:Hp) (R:It->Hp->Prop),Inv X pins σ H s->wi σ H R->
  wpAny (model X.prog X.w) X.A (eval iter X.env) (fun v s1=>wpAny (model X.prog X.w) X.A (pyIter v) (PIE X pins σ tg R) X.xe s1) X.xe s
theorem zml {M:Model} {A:Around} {E:Value->Shared->Prop} {s:Shared} {tg:Expr} {it:Addr} {u:Value} {o:Obj} {n:String} {vs:Array Value} {Q:Unit->Shared->Prop} (ho:s.heap.get? it=some o) (hc:o.cls=.type n) (hd:o.data=.fields vs)
    (hn:["enumerate","zip","dict_itemiterator","dict_reverseitemiterator","odict_iterator","itertools.zip_longest","itertools.pairwise"].contains n=false) (hQ:Q () s):wpAny M A (letOwnedTupleGo tg (.ref it) u) Q E s:=by
  unfold letOwnedTupleGo
  cases tg<;>first
    | exact wpAny_pure hQ
    | (cases u<;>first
        | exact wpAny_pure hQ
        | (refine wpAny_bind (wpAny_load ho ?_)
           rw[hc,hd]
           show wpAny M A (if (["enumerate","zip","dict_itemiterator","dict_reverseitemiterator","odict_iterator","itertools.zip_longest","itertools.pairwise"].contains n&&vs[0]? == some (rawInt _))=true then _ else _) Q E s
           rw[if_neg (by intro h;rw[hn,Bool.false_and] at h;cases h)];exact wpAny_pure hQ))
def Itl (K:PySem.W.Frag) (a:Addr):It:=
 ⟨fun i H=>∃xs x,SqL K H a xs/\xs[i]? = some x,fun i H x H'=>H'=H/\∀xs,SqL K H a xs->xs[i]? = some x,fun i H=>∃xs,SqL K H a xs/\xs.length<=i⟩
def Itt (K:PySem.W.Frag) (a:Addr):It:=
 ⟨fun i H=>∃xs x,SqT K H a xs/\xs[i]? = some x,fun i H x H'=>H'=H/\∀xs,SqT K H a xs->xs[i]? = some x,fun i H=>∃xs,SqT K H a xs/\xs.length<=i⟩
def Itr (lo:Int) (n:Nat):It:=⟨fun i _=>i < n,fun i H x H'=>H'=H/\x=.int (lo+i),fun i _=>n<=i⟩
theorem zkH {P:Program} {w:World} {K:PySem.W.Frag} {tg:Expr} (a it:Addr):Turn P w K tg (Itl K a) [it] it (fun i h=>h.IsListIter it a i) where
 mem:=by simp
 obj:=fun i h st b hb=>by
  have e:b=it:=by simpa using hb
  subst e;obtain ⟨o,e,c,d⟩:=st;exact ⟨o,e,fun v z=>by rw[d] at z;cases z⟩
 keep:=fun i h h' st k=>st.at fun o e=>k it (by simp) o e
 item:=by
  intro X hP hw hK hc i pins s σ H E I hf st hg;subst hP hw hK;obtain ⟨xs,x,hq,hx⟩:=hg;obtain ⟨its,rv,p,hz⟩:=I.list hq;obtain ⟨u,hu,ru⟩:=rv.get hx;obtain ⟨f0,f1,f2,f3,f4,f5⟩:=hf it (by simp);refine wpAny_pyNext_list_item st p.isList (x:=u) (by simpa using hu) fun h' st' sb=>?_
  have I1:Inv X pins σ H { s with heap:=h' }:=I.turned (t':=s.toks) (fun b o hb e=>(sb.2 b hb).trans e) f0 f1 f3 f4 f5;obtain ⟨o,e,c,d⟩:=id st';exact ⟨u,rfl,zml (s:={ s with heap:=h' }) e c d (by decide) ⟨x,H,I1,ru,⟨rfl,fun ys hy=>by rw[I.list_inj hy hq];exact hx⟩,st',fun b hb=>(hf b hb).1⟩⟩
 done:=by
  intro X hP hw hK hc i pins s σ H E I hf st hg;subst hP hw hK;obtain ⟨xs,hq,hx⟩:=hg;obtain ⟨its,rv,p,hz⟩:=I.list hq;obtain ⟨f0,f1,f2,f3,f4,f5⟩:=hf it (by simp);have hl:=rv.length;exact wpAny_pyNext_list_end (I.ok.hd hc) st p.isList (by simp;omega) fun h' eb=>⟨rfl,I.turned (t':=s.toks) (fun b o hb e=>eb b o hb e) f0 f1 f3 f4 f5⟩
 self:=fun _ _ _ _ _ st h=>wpAny_pyIter_listiter st h
theorem zj3 {P:Program} {w:World} {K:PySem.W.Frag} {tg:Expr} (a it:Addr):Turn P w K tg (Itt K a) [it] it (fun i h=>h.IsTupleIter it a i) where
 mem:=by simp
 obj:=fun i h st b hb=>by
  have e:b=it:=by simpa using hb
  subst e;obtain ⟨o,e,c,d⟩:=st;exact ⟨o,e,fun v z=>by rw[d] at z;cases z⟩
 keep:=fun i h h' st k=>st.at fun o e=>k it (by simp) o e
 item:=by
  intro X hP hw hK hc i pins s σ H E I hf st hg;subst hP hw hK;obtain ⟨xs,x,hq,hx⟩:=hg;obtain ⟨its,rv,p,hz⟩:=I.tuple hq;obtain ⟨u,hu,ru⟩:=rv.get hx;obtain ⟨f0,f1,f2,f3,f4,f5⟩:=hf it (by simp);refine wpAny_pyNext_tuple_item st (show s.heap.IsTuple a its.toArray from p) (x:=u) (by simpa using hu) fun h' st' sb=>?_
  have I1:Inv X pins σ H { s with heap:=h' }:=I.turned (t':=s.toks) (fun b o hb e=>(sb.2 b hb).trans e) f0 f1 f3 f4 f5;obtain ⟨o,e,c,d⟩:=id st';exact ⟨u,rfl,zml (s:={ s with heap:=h' }) e c d (by decide) ⟨x,H,I1,ru,⟨rfl,fun ys hy=>by rw[I.tuple_inj hy hq];exact hx⟩,st',fun b hb=>(hf b hb).1⟩⟩
 done:=by
  intro X hP hw hK hc i pins s σ H E I hf st hg;subst hP hw hK;obtain ⟨xs,hq,hx⟩:=hg;obtain ⟨its,rv,p,hz⟩:=I.tuple hq;obtain ⟨f0,f1,f2,f3,f4,f5⟩:=hf it (by simp);have hl:=rv.length;exact wpAny_pyNext_tuple_end (I.ok.hd hc) st (show s.heap.IsTuple a its.toArray from p) (by simp;omega) fun h' eb=>⟨rfl,I.turned (t':=s.toks) (fun b o hb e=>eb b o hb e) f0 f1 f3 f4 f5⟩
 self:=fun _ _ _ _ _ st h=>wpAny_pyIter_tupleiter st h
theorem zj7 {P:Program} {w:World} {K:PySem.W.Frag} {tg:Expr} (it:Addr) (lo:Int) (n:Nat):Turn P w K tg (Itr lo n) [it] it (fun i h=>IsRangeIter h it (lo+(i:Nat) * 1) ((n:Int) - (i:Nat)) 1) where
 mem:=by simp
 obj:=fun i h st b hb=>by
  have e:b=it:=by simpa using hb
  subst e;exact ⟨_,st,fun v z=>by
   have z':Data.fields _=Data.cell v:=z
   cases z'⟩
 keep:=fun i h h' st k=>k it (by simp) _ st
 item:=by
  intro X hP hw hK hc i pins s σ H E I hf st hg;subst hP hw hK;obtain ⟨f0,f1,f2,f3,f4,f5⟩:=hf it (by simp);have W:=Walks.range (prog:=X.prog) (w:=X.w) (I.ok.hd hc) it lo 1 n;refine W.item i s _ _ hg st fun v h' tk hv st' kk=>?_
  obtain ⟨t,rfl⟩:=hv;have I1:Inv X pins σ H { s with heap:=h',toks:=tk }:=I.turned (fun b o hb e=>kk b o (by simpa using hb) e) f0 f1 f3 f4 f5;refine ⟨_,rfl,zml (s:={ s with heap:=h',toks:=tk }) (n:="range_iterator") st' rfl rfl (by decide) ⟨.int (lo+i),H,I1,⟨t, ?_⟩,⟨rfl,rfl⟩,st',fun b hb=>(hf b hb).1⟩⟩;rw[Int.mul_one]
 done:=by
  intro X hP hw hK hc i pins s σ H E I hf st hg;subst hP hw hK;obtain ⟨f0,f1,f2,f3,f4,f5⟩:=hf it (by simp);exact wpAny_pyNext_range_end (I.ok.hd hc) st (by have:n<=i:=hg;omega) fun h' eb=>⟨rfl,I.turned (t':=s.toks) (fun b o hb e=>eb b o hb e) f0 f1 f3 f4 f5⟩
 self:=fun _ _ _ _ _ st h=>wpAny_pyIter_rangeiter st h
section
variable {X:Cx} {tg:Expr}
theorem zm5 {pins:List (Addr×Obj)} {σ:St} {H:Hp} {s:Shared} {R:It->Hp->Prop} {E:Value->Shared->Prop} {lo hi:Int} {t u v:Tok} {tk:Nat} (I:Inv X pins σ H s) (h1:-(2 ^ 62)<=lo) (h2:lo < 2 ^ 62) (h3:-(2 ^ 62)<=hi) (h4:hi < 2 ^ 62)
  (q:R (Itr lo (hi - lo).toNat) H):wpAny (model X.prog X.w) X.A (pyIter (.ref s.heap.objs.size)) (PIE X pins σ tg R) E { s with heap:=s.heap.push { cls:=.type "range",data:=.fields #[.int lo t,.int hi u,.int 1 v] },toks:=tk }:=by
 refine wpAny_pyIter_range (IsRange.new ..) (small_one h1 h2 h3 h4) ?_;have I1:Inv X pins σ H { s with heap:=s.heap.push { cls:=.type "range",data:=.fields #[.int lo t,.int hi u,.int 1 v] },toks:=tk }:=I.kept fun b o e=>Heap.get?_push_of_some _ e
 refine ⟨(s.heap.push { cls:=.type "range",data:=.fields #[.int lo t,.int hi u,.int 1 v] }).objs.size,[(s.heap.push { cls:=.type "range",data:=.fields #[.int lo t,.int hi u,.int 1 v] }).objs.size],_,_,H,rfl,
  I1.kept (t':=tk) fun b o e=>Heap.get?_push_of_some _ e,zj7 _ lo (hi - lo).toNat, ?_,fun b hb=>?_,q⟩
 .have e1:lo+((0:Nat):Int) * 1=lo:=by simp
  have e2:(((hi - lo).toNat:Nat):Int) - ((0:Nat):Int)=Builtin.Range.rangeSize lo hi 1:=by rw[rangeSize_one];split<;>omega
  show IsRangeIter _ _ (lo+((0:Nat):Int) * 1) ((((hi - lo).toNat:Nat):Int) - ((0:Nat):Int)) 1
  rw[e1,e2];exact Heap.get?_push_size _ rfl
 .have e:b=(s.heap.push { cls:=.type "range",data:=.fields #[.int lo t,.int hi u,.int 1 v] }).objs.size:=by simpa using hb
  subst e;exact I1.fpOk (Nat.le_refl _) (I1.hok.fresh (Nat.le_refl _))
def zr3 (ta:TA):TI:=fun σ H R=>ta σ H fun vs H1=>∃j:Int,vs=[.int j]/\-(2 ^ 62)<=j/\j < 2 ^ 62/\R (Itr 0 j.toNat) H1
theorem zf0 {a:Expr} {ta:TA} {p pos:Pos} (hg:Gl X "range") (hm:X.mg "range"=none) (ha:PA X [a] ta) (hs:starEach [a] X.env=[(false,eval a X.env)]:=by rfl):PI X tg (.Call (.Name "range" p) [a] [] pos) (zr3 ta):=by
 intro pins s σ H R I h;refine Call_ (zgR I hg hm boot_range (PyProof.Rows.callWith_type1 (thn (ha pos pins s σ H _ I h) fun us s1 ⟨vs,H1,I1,r1,q1⟩=>?_) hs rfl));obtain ⟨j,e,q1,q2,q⟩:=q1;subst e
 cases r1 with
 | cons r rr=>
  cases rr;obtain ⟨t,rfl⟩:=r;exact call_range_1 (zm5 I1 ∅ ∅ q1 q2 (by simpa using q))
def tFor (wi:TI) (g:TG) (tb:TS):TS:=fun D σ H=>wi σ H fun J H1=>∃W:Nat->Nat->St->Hp->Prop,(∃m,W 0 m σ H1)/\∀i m σ H,W i m σ H->
 (J.stop i H/\D.nx σ H)\/(J.go i H/\∃N:St->Hp->Prop,(∀σ' H',N σ' H'->∃m',m' < m/\W (i+1) m' σ' H')/\∀x H',J.yld i H x H'->g x σ H' fun σ2 H2=>tb { D with nx:=N,ct:=N,bk:=D.nx } σ2 H2)
def zgX (fp:List Addr) (h:Heap):List (Addr×Obj):=fp.filterMap fun b=>(h.get? b).map fun o=>(b,o)
theorem zen {fp:List Addr} {h:Heap} {b:Addr} {o:Obj} (hb:b∈fp) (e:h.get? b=some o):(b,o)∈zgX fp h:=List.mem_filterMap.mpr ⟨b,hb,by rw[e];rfl⟩
theorem zkE {fp:List Addr} {h:Heap} {p:Addr×Obj} (hp:p∈zgX fp h):p.1∈fp/\h.get? p.1=some p.2:=by
 obtain ⟨b,hb,e⟩:=List.mem_filterMap.mp hp
 cases q:h.get? b with
 | none=>rw[q] at e;cases e
 | some o=>
  rw[q] at e;have e':(b,o)=p:=Option.some.inj e;subst e';exact ⟨hb,q⟩
theorem Inv.pinned {pins:List (Addr×Obj)} {σ:St} {H:Hp} {s:Shared} {fp:List Addr} (I:Inv X pins σ H s) (hf:∀b∈fp,FpOk X pins H b) (ho:∀b∈fp,∃o,s.heap.get? b=some o/\∀v,o.data≠.cell v):Inv X (pins++zgX fp s.heap) σ H s:=
 I.pins_of fun p hp=>(List.mem_append.mp hp).elim (fun z=>I.pin p (List.mem_append_right _ z)) fun z=>by
  obtain ⟨hb,e⟩:=zkE z;obtain ⟨f0,f1,f2,_⟩:=hf p.1 hb;obtain ⟨o,e',d⟩:=ho p.1 hb;rw[e] at e';cases e';exact ⟨e,f0,f1,f2,d⟩
theorem Inv.unpinned {pins pl:List (Addr×Obj)} {σ:St} {H:Hp} {s:Shared} (I:Inv X (pins++pl) σ H s):Inv X pins σ H s:=I.pins_of fun p hp=>I.pin p (List.mem_append_right _ (List.mem_append_left _ hp))
theorem zja {iter:Expr} {body:List Stmt} {wi:TI} {g:TG} {tb:TS} {pos:Pos} (hp:PassesOwn (model X.prog X.w) X.A X.env X.xe) (hc:X.calm=true) (hi:PI X tg iter wi) (hg:PG X tg g) (hb:PSs X body tb)
  (hs:∀x,foldedSetIterable iter X.env x=pure x:=by intro _;rfl):PS X (.For tg iter body [] pos) (tFor wi g tb):=by
 intro pins s σ H D I h;refine wpAny_For (thn (hi pins s σ H _ I h) fun v s1 h1=>thn h1 fun itv s2 h2=>?_) hs;obtain ⟨it,fp,tn,J,H2,e,I2,T,st2,f2,W,⟨m0,w0⟩,turn⟩:=h2;subst e
 -- what stays true of the iterator's objects through the loop
 have stat:∀{H':Hp},(∀b∈fp,H' b=none)->∀b∈fp,FpOk X pins H' b:=fun hn b hb=>⟨hn b hb,(f2 b hb).2⟩
 refine codeAny_forLoop_any (fun n s'=>∃i σ' H',Inv X pins σ' H' s'/\tn i s'.heap/\(∀b∈fp,H' b=none)/\W i n σ' H') ?_ m0 ⟨0,σ,H2,I2,st2,fun b hb=>(f2 b hb).1,w0⟩
 rintro n s3 ⟨i,σ3,H3,I3,st3,fr3,w3⟩
 rcases turn i n σ3 H3 w3 with ⟨stop,qn⟩ | ⟨go,N,hN,step⟩
 .refine wpAny_passesOwn hp (thn (T.done X rfl rfl rfl hc i pins s3 σ3 H3 X.xe I3 (stat fr3) st3 stop) fun r s4 hx__=>?_);obtain ⟨hr,I4⟩:=hx__;subst hr;exact wpAny_execs_nil ⟨σ3,H3,I4,qn⟩
 .refine wpAny_passesOwn hp (thn (T.item X rfl rfl rfl hc i pins s3 σ3 H3 X.xe I3 (stat fr3) st3 go) fun r s4 hx__=>?_);obtain ⟨u,hr,h4⟩:=hx__;subst hr;refine wpAny_passesOwn hp (thn h4 fun _ s5 hx__=>?_);obtain ⟨x,H5,I5,r5,y5,st5,fr5⟩:=hx__;have I5':=I5.pinned (stat fr5) (T.obj _ _ st5);refine wpAny_passesOwn hp (thn (hg _ s5 σ3 H5 x u _ I5' r5 (step x H5 y5)) fun _ s6 hx__=>?_);obtain ⟨σ6,H6,I6,q6⟩:=hx__;refine wpAny_passesOwn hp (thn (hb _ s6 σ6 H6 _ I6 q6) fun f s7 q7=>?_);have again:∀{σ7:St} {H7:Hp},Inv X (pins++zgX fp s5.heap) σ7 H7 s7->N σ7 H7->∃m,m < n/\∃i σ' H',Inv X pins σ' H' s7/\tn i s7.heap/\(∀b∈fp,H' b=none)/\W i m σ' H':=fun {σ7 H7} I7 n7=>by
   obtain ⟨m',hm,w7⟩:=hN σ7 H7 n7;refine ⟨m',hm,i+1,σ7,H7,I7.unpinned,T.keep _ _ _ st5 fun b hb o e=>(I7.pin (b,o) (List.mem_append_right _ (List.mem_append_right _ (zen hb e)))).1,fun b hb=>?_,w7⟩;obtain ⟨o,e,d⟩:=T.obj _ _ st5 b hb;exact (I7.pin (b,o) (List.mem_append_right _ (List.mem_append_right _ (zen hb e)))).2.1
  cases f with
  | next=>obtain ⟨σ7,H7,I7,n7⟩:=q7;exact again I7 n7
  | cont=>obtain ⟨σ7,H7,I7,n7⟩:=q7;exact again I7 n7
  | brk=>obtain ⟨σ7,H7,I7,q7⟩:=q7;exact ⟨σ7,H7,I7.unpinned,q7⟩
  | ret v=>obtain ⟨x7,σ7,H7,I7,r7,q7⟩:=q7;exact ⟨x7,σ7,H7,I7.unpinned,r7,q7⟩
end
abbrev R2:=V->V->Hp->VK->Prop
def OpR (X:Cx) (f:Value->Value->Sem Value) (r:R2):Prop:=
 ∀(pins:List (Addr×Obj)) (s:Shared) (σ:St) (H:Hp) (x y:V) (v u:Value) (Q:VK),Inv X pins σ H s->RelV x v->RelV y u->r x y H Q->
  wpAny (model X.prog X.w) X.A (f v u) (EP X pins σ Q) X.xe s
def UnR (X:Cx) (f:Value->Sem Value) (r:V->Hp->VK->Prop):Prop:=
 ∀(pins:List (Addr×Obj)) (s:Shared) (σ:St) (H:Hp) (x:V) (v:Value) (Q:VK),Inv X pins σ H s->RelV x v->r x H Q->
  wpAny (model X.prog X.w) X.A (f v) (EP X pins σ Q) X.xe s
def CallR (X:Cx) (f:Value) (r:List V->Hp->VK->Prop):Prop:=
 ∀(pins:List (Addr×Obj)) (s:Shared) (σ:St) (H:Hp) (xs:List V) (us:List Value) (Q:VK),Inv X pins σ H s->Vals xs us->r xs H Q->
  wpAny (model X.prog X.w) X.A (call f us) (EP X pins σ Q) X.xe s
def TruR (X:Cx) (r:V->Hp->(Bool->Hp->Prop)->Prop):Prop:=
 ∀(pins:List (Addr×Obj)) (s:Shared) (σ:St) (H:Hp) (x:V) (v:Value) (Q:Bool->Hp->Prop),Inv X pins σ H s->RelV x v->r x H Q->
  wpAny (model X.prog X.w) X.A (truthy v) (TP X pins σ Q) X.xe s
def tOp (r:R2) (ta tb:TE):TE:=fun σ H Q=>ta σ H fun x H1=>tb σ H1 fun y H2=>r x y H2 Q
def tUn (r:V->Hp->VK->Prop) (ta:TE):TE:=fun σ H Q=>ta σ H fun x H1=>r x H1 Q
def rI (C:Int->Int->Prop) (g:Int->Int->V):R2:=fun x y H Q=>∃i j,x=.int i/\y=.int j/\C i j/\Q (g i j) H
def rI0 (g:Int->Int->V):R2:=fun x y H Q=>∃i j,x=.int i/\y=.int j/\Q (g i j) H
def rU (g:Int->V):V->Hp->VK->Prop:=fun x H Q=>∃i,x=.int i/\Q (g i) H
section
variable {X:Cx} {a b c:Expr} {ta tb tc:TE} {pos:Pos}
theorem binT (ha:PE X a ta) (hb:PE X b tb) {pins:List (Addr×Obj)} {s:Shared} {σ:St} {H:Hp} {R:V->V->Hp->Prop} (I:Inv X pins σ H s)
  (h:ta σ H fun x H1=>tb σ H1 fun y H2=>R x y H2) {Q:Value->Shared->Prop} {f:Value->Value->Sem Value}
  (hf:∀v u s2 x y H2,Inv X pins σ H2 s2->RelV x v->RelV y u->R x y H2->wpAny (model X.prog X.w) X.A (f v u) Q X.xe s2) :
  wpAny (model X.prog X.w) X.A (eval a X.env) (fun v s₁=>wpAny (model X.prog X.w) X.A (eval b X.env) (fun u s₂=>wpAny (model X.prog X.w) X.A (f v u) Q X.xe s₂) X.xe s₁) X.xe s:=by
 refine thn (ha pins s σ H _ I h) fun v s1 hx__=>?_
 obtain ⟨x,H1,I1,r1,q1⟩:=hx__;refine thn (hb pins s1 σ H1 _ I1 q1) fun u s2 hx__=>?_
 obtain ⟨y,H2,I2,r2,q2⟩:=hx__;exact hf v u s2 x y H2 I2 r1 r2 q2
theorem zt6 {op:Operator} {r:R2} (ho:OpR X (binaryOp op) r) (ha:PE X a ta) (hb:PE X b tb):PE X (.BinOp a op b pos) (tOp r ta tb):=by
 intro pins s σ H Q I h;exact wpAny_BinOp (binT ha hb I h fun v u s2 x y H2 I2 rx ry q=>ho pins s2 σ H2 x y v u Q I2 rx ry q)
theorem zqP {op:UnaryOp} {r:V->Hp->VK->Prop} (ho:UnR X (unaryOp op) r) (ha:PE X a ta):PE X (.UnaryOp op a pos) (tUn r ta):=by
 intro pins s σ H Q I h;exact UnaryOp_ (thn (ha pins s σ H _ I h) fun v s1 ⟨x,H1,I1,r1,q1⟩=>ho pins s1 σ H1 x v Q I1 r1 q1)
theorem opI {f:Value->Value->Sem Value} {C:Int->Int->Prop} {g:Int->Int->Int}
  (rule:∀(i j:Int) (t u:Tok) (s:Shared) (Q:Value->Shared->Prop) (E:Value->Shared->Prop),C i j->Q (.int (g i j) s.toks) { s with toks:=s.toks+1 }->wpAny (model X.prog X.w) X.A (f (.int i t) (.int j u)) Q E s) :
  OpR X f (rI C fun i j=>.int (g i j)):=by
 intro pins s σ H x y v u Q I rx ry h;obtain ⟨i,j,rfl,rfl,hc,q⟩:=h;obtain ⟨t,rfl⟩:=rx;obtain ⟨t',rfl⟩:=ry;exact rule i j t t' s _ _ hc ⟨.int (g i j),H,I.tok _,⟨_,rfl⟩,q⟩
theorem opI0 {f:Value->Value->Sem Value} {g:Int->Int->Int}
  (rule:∀(i j:Int) (t u:Tok) (s:Shared) (Q:Value->Shared->Prop) (E:Value->Shared->Prop),Q (.int (g i j) s.toks) { s with toks:=s.toks+1 }->wpAny (model X.prog X.w) X.A (f (.int i t) (.int j u)) Q E s) :
  OpR X f (rI0 fun i j=>.int (g i j)):=by
 intro pins s σ H x y v u Q I rx ry h;obtain ⟨i,j,rfl,rfl,q⟩:=h;obtain ⟨t,rfl⟩:=rx;obtain ⟨t',rfl⟩:=ry;exact rule i j t t' s _ _ ⟨.int (g i j),H,I.tok _,⟨_,rfl⟩,q⟩
theorem opB0 {f:Value->Value->Sem Value} {g:Int->Int->Bool}
  (rule:∀(i j:Int) (t u:Tok) (s:Shared) (Q:Value->Shared->Prop) (E:Value->Shared->Prop),Q (.bool (g i j)) s->wpAny (model X.prog X.w) X.A (f (.int i t) (.int j u)) Q E s) :
  OpR X f (rI0 fun i j=>.bl (g i j)):=by
 intro pins s σ H x y v u Q I rx ry h;obtain ⟨i,j,rfl,rfl,q⟩:=h;obtain ⟨t,rfl⟩:=rx;obtain ⟨t',rfl⟩:=ry;exact rule i j t t' s _ _ ⟨.bl (g i j),H,I,rfl,q⟩
def CPow (i j:Int):Prop:=0<=j/\j<=1000000/\i.natAbs < 2 ^ 64
def CMul (i j:Int):Prop:=(-(2 ^ 64) < i/\i < 2 ^ 64)\/(-(2 ^ 64) < j/\j < 2 ^ 64)
theorem CMul.ok {i j:Int} (h:CMul i j):IntMulOk i j:=by
 rcases h with ⟨h1,h2⟩ | ⟨h1,h2⟩
 .exact .of_left (intBits_le_64 h1 h2)
 .exact .of_right (intBits_le_64 h1 h2)
theorem op_add:OpR X (binaryOp .Add) (rI0 fun i j=>.int (i+j)):=opI0 fun _ _ _ _ _ _ _ q=>add_int q
theorem zqj:OpR X (binaryOp .Sub) (rI0 fun i j=>.int (i - j)):=opI0 fun _ _ _ _ _ _ _ q=>sub_int q
theorem op_mul:OpR X (binaryOp .Mult) (rI CMul fun i j=>.int (i * j)):=opI fun _ _ _ _ _ _ _ hc q=>mul_int q hc.ok
theorem zrs:OpR X (binaryOp .Mod) (rI (fun _ j=>0 < j) fun i j=>.int (i % j)):=opI fun i j _ _ _ _ _ hc q=>by
 have h1:(0:Int) < j:=hc;exact mod_int' ∅ (by rw[Int.fmod_eq_emod_of_nonneg i ∅];exact q)
theorem zrf:OpR X (binaryOp .Pow) (rI CPow fun i j=>.int (i ^ j.toNat)):=opI fun _ _ _ _ _ _ _ hc q=>pow_int_small hc.1 hc.2.1 hc.2.2 q
theorem unI {f:Value->Sem Value} {g:Int->Int}
  (rule:∀(i:Int) (t:Tok) (s:Shared) (Q:Value->Shared->Prop) (E:Value->Shared->Prop),Q (.int (g i) s.toks) { s with toks:=s.toks+1 }->wpAny (model X.prog X.w) X.A (f (.int i t)) Q E s) :
  UnR X f (rU fun i=>.int (g i)):=by
 intro pins s σ H x v Q I rx h;obtain ⟨i,rfl,q⟩:=h;obtain ⟨t,rfl⟩:=rx;exact rule i t s _ _ ⟨.int (g i),H,I.tok _,⟨_,rfl⟩,q⟩
theorem un_neg:UnR X (unaryOp .USub) (rU fun i=>.int (-i)):=unI fun _ _ _ _ _ q=>neg_int q
end
section
variable {X:Cx} {a b c:Expr} {ta tb tc:TE} {pos:Pos}
theorem znG {pins:List (Addr×Obj)} {σ:St} {H:Hp} {s:Shared} {Q:VK} {k k':Bool} (I:Inv X pins σ H s) (q:Q (.bl k) H) (e:k=k'):EP X pins σ Q (.bool k') s:=by
 subst e;exact ⟨.bl k,H,I,rfl,q⟩
theorem zl0:OpR X (compareOp .Lt) (rI0 fun i j=>.bl (decide (i < j))):=opB0 fun _ _ _ _ _ _ _ q=>lt_int q
theorem zmJ:OpR X (compareOp .LtE) (rI0 fun i j=>.bl (decide (i<=j))):=opB0 fun _ _ _ _ _ _ _ q=>le_int q
theorem ztQ:OpR X (compareOp .Gt) (rI0 fun i j=>.bl (decide (j < i))):=opB0 fun _ _ _ _ _ _ _ q=>gt_int q
theorem op_isN:OpR X (compareOp .Is) (fun x y H Q=>y=.non/\Q (.bl (decide (x=.non))) H):=by
 intro pins s σ H x y v u Q I rx ry h;obtain ⟨rfl,q⟩:=h;cases ry;refine is_none_gen (znG I q ?_)
 cases x<;>first
  | (cases rx;rfl)
  | (obtain ⟨t,rfl⟩:=rx;rfl)
theorem op_notN:OpR X (compareOp .IsNot) (fun x y H Q=>y=.non/\Q (.bl (!decide (x=.non))) H):=by
 intro pins s σ H x y v u Q I rx ry h;obtain ⟨rfl,q⟩:=h;cases ry;refine isnot_none_gen (znG I q ?_)
 cases x<;>first
  | (cases rx;rfl)
  | (obtain ⟨t,rfl⟩:=rx;rfl)
theorem OpR.or {f:Value->Value->Sem Value} {r r':R2} (h:OpR X f r) (h':OpR X f r'):OpR X f (fun x y H Q=>r x y H Q\/r' x y H Q):=by
 intro pins s σ H x y v u Q I rx ry q;rcases q with q | q
 .exact h pins s σ H x y v u Q I rx ry q
 .exact h' pins s σ H x y v u Q I rx ry q
theorem zjl (b:Expr) {op:CmpOp} (h:op≠.In:=by decide) (h2:op≠.NotIn:=by decide):behindInMarks op b=false:=by
 have e1:(op==CmpOp.In)=false:=by cases op<;>first | rfl | exact absurd rfl h
 have e2:(op==CmpOp.NotIn)=false:=by cases op<;>first | rfl | exact absurd rfl h2
 cases b<;>simp[behindInMarks,e1,e2]
theorem zpD {op:CmpOp} {r:R2} (ho:OpR X (compareOp op) r) (ha:PE X a ta) (hb:PE X b tb) (hm:behindInMarks op b=false):PE X (.Compare a [op] [b] pos) (tOp r ta tb):=by
 intro pins s σ H Q I h;exact wpAny_Compare1 (binT ha hb I h fun v u s2 x y H2 I2 rx ry q=>ho pins s2 σ H2 x y v u Q I2 rx ry q) hm
def zsl (t:TE):TT:=fun σ H Q=>t σ H fun x H'=>∃k,x=.bl k/\Q k H'
theorem zo3 {op:CmpOp} {r:R2} (ho:OpR X (compareOp op) r) (ha:PE X a ta) (hb:PE X b tb) (hm:behindInMarks op b=false):PT X (.Compare a [op] [b] pos) (zsl (tOp r ta tb)):=by
 intro pins s σ H Q I h;refine wpAny_isTrue_Compare1 (thn (ha pins s σ H _ I h) fun v s1 w1=>?_) hm;obtain ⟨x,H1,I1,r1,q1⟩:=w1;refine thn (hb pins s1 σ H1 _ I1 q1) fun u s2 w2=>?_
 obtain ⟨y,H2,I2,r2,q2⟩:=w2;refine thn (ho pins s2 σ H2 x y v u _ I2 r1 r2 q2) fun c s3 w3=>?_
 obtain ⟨z,H3,I3,r3,k,e,q3⟩:=w3;subst e;cases r3;exact wpAny_truthy_bool ⟨H3,I3,q3⟩
def zku (r r':R2) (ta tb tc:TE):TE:=fun σ H Q=>ta σ H fun x H1=>tb σ H1 fun y H2=>r x y H2 fun z H3=>∃k,z=.bl k/\
 (if k=true then tc σ H3 fun w' H4=>r' y w' H4 Q else Q (.bl false) H3)
theorem znl {op op':CmpOp} {r r':R2} (ho:OpR X (compareOp op) r) (ho':OpR X (compareOp op') r') (ha:PE X a ta) (hb:PE X b tb) (hc:PE X c tc)
  (hm:lastMarks [op,op'] [b,c]=false:=by with_unfolding_all rfl):PE X (.Compare a [op,op'] [b,c] pos) (zku r r' ta tb tc):=by
 intro pins s σ H Q I h;refine Compare_chain (thn (ha pins s σ H _ I h) fun v s1 w1=>?_) hm;obtain ⟨x,H1,I1,r1,q1⟩:=w1;refine chain_link (thn (hb pins s1 σ H1 _ I1 q1) fun u s2 w2=>?_);obtain ⟨y,H2,I2,r2,q2⟩:=w2;refine thn (ho pins s2 σ H2 x y v u _ I2 r1 r2 q2) fun d s3 w3=>?_
 obtain ⟨z,H3,I3,r3,k,e,q3⟩:=w3;subst e;cases r3;refine wpAny_truthy_bool ?_
 cases k with
 | false=>exact ite_ff ⟨.bl false,H3,I3,rfl,q3⟩
 | true=>exact ite_tt (chain_last (thn (hc pins s3 σ H3 _ I3 q3) fun w' s4 ⟨z',H4,I4,r4,q4⟩=>ho' pins s4 σ H4 y z' u w' Q I4 r2 r4 q4))
theorem zmq {op op':CmpOp} {r r':R2} (ho:OpR X (compareOp op) r) (ho':OpR X (compareOp op') r') (ha:PE X a ta) (hb:PE X b tb) (hc:PE X c tc)
  (hm:lastMarks [op,op'] [b,c]=false:=by with_unfolding_all rfl):PT X (.Compare a [op,op'] [b,c] pos) (zsl (zku r r' ta tb tc)):=by
 intro pins s σ H Q I h;refine isTrue_chain (thn (ha pins s σ H _ I h) fun v s1 w1=>?_) hm;obtain ⟨x,H1,I1,r1,q1⟩:=w1;refine test_link (thn (hb pins s1 σ H1 _ I1 q1) fun u s2 w2=>?_);obtain ⟨y,H2,I2,r2,q2⟩:=w2;refine thn (ho pins s2 σ H2 x y v u _ I2 r1 r2 q2) fun d s3 w3=>?_
 obtain ⟨z,H3,I3,r3,k,e,q3⟩:=w3;subst e;cases r3;refine wpAny_truthy_bool ?_
 cases k with
 | false=>
  obtain ⟨k',e',q'⟩:=q3
  cases e'
  exact ite_ff ⟨H3,I3,q'⟩
 | true=>
  refine ite_tt (test_last (thn (hc pins s3 σ H3 _ I3 q3) fun w' s4 ⟨z',H4,I4,r4,q4⟩=>thn (ho' pins s4 σ H4 y z' u w' _ I4 r2 r4 q4) fun d' s5 hx__=>?_));obtain ⟨z2,H5,I5,r5,k2,e2,q5⟩:=hx__;subst e2;cases r5;exact wpAny_truthy_bool ⟨H5,I5,q5⟩
def TruV (K:PySem.W.Frag) (x:V) (H:Hp) (k:Bool):Prop:=
 match x with
 | .non=>k=false
 | .bl b=>k=b
 | .int i=>k=(i != 0)
 | .str y=>y.length<=sizeLine/\k=((y.length:Int) != 0)
 | .byt y=>y.size<=sizeLine/\k=((y.size:Int) != 0)
 | .ref p=>(∃xs,SqL K H p xs/\k=!xs.isEmpty)\/(∃xs,SqT K H p xs/\k=!xs.isEmpty)\/∃kvs,H p=some (.dK kvs)/\k=!kvs.isEmpty
 | _=>False
theorem zjU {κ:Type} {kvs:List (κ×V)} {vs:List (κ×Value)} (r:KV kvs vs):(!vs.isEmpty)=!kvs.isEmpty:=by
 cases r<;>rfl
theorem zgV {xs:List V} {its:List Value} (r:Vals xs its):(!its.toArray.isEmpty)=!xs.isEmpty:=by
 cases r<;>simp
theorem zgE:(sizeLine:Nat) < 2 ^ 63:=by rw[sizeLine_eq];decide
theorem zsg:TruR X (fun x H Q=>∃k,TruV X.K x H k/\Q k H):=by
 intro pins s σ H x v Q I rx h;obtain ⟨k,e,q⟩:=h;have hl:=zgE;have hs:sizeLine=16777216:=sizeLine_eq
 cases x with
 | non=>
  cases rx;have e':k=false:=e;subst e';exact truthy_none ⟨H,I,q⟩
 | bl b=>
  cases rx;have e':k=b:=e;subst e';exact wpAny_truthy_bool ⟨H,I,q⟩
 | int i=>
  obtain ⟨t,rfl⟩:=rx;have e':k=(i != 0):=e;subst e';exact PySem.P.truthy_int ⟨H,I,q⟩
 | str y=>
  obtain ⟨t,rfl⟩:=rx;obtain ⟨hy,e'⟩:y.length<=sizeLine/\k=((y.length:Int) != 0):=e;subst e';exact PySem.P.truthy_str ∅ ⟨H,I.tok _,q⟩
 | byt y=>
  obtain ⟨t,rfl⟩:=rx;obtain ⟨hy,e'⟩:y.size<=sizeLine/\k=((y.size:Int) != 0):=e;subst e';exact PySem.W.truthy_bytes ∅ ⟨H,I.tok _,q⟩
 | ref p=>
  cases rx;have e':(∃xs,SqL X.K H p xs/\k=!xs.isEmpty)\/(∃xs,SqT X.K H p xs/\k=!xs.isEmpty)\/∃kvs,H p=some (.dK kvs)/\k=!kvs.isEmpty:=e;rcases e' with ⟨xs,hx,e'⟩ | ⟨xs,hx,e'⟩ | ⟨kvs,hx,e'⟩
  .subst e';obtain ⟨its,r,pl,hz⟩:=I.list hx;have hlen:=r.length;exact wpAny_truthy_list pl.isList (by simp only[List.size_toArray];omega) ⟨H,I.tok _,by rw[zgV r];exact q⟩
  .subst e';obtain ⟨its,r,pl,hz⟩:=I.tuple hx;have hlen:=r.length;exact truthy_tuple pl (by simp only[List.size_toArray];omega) ⟨H,I.tok _,by rw[zgV r];exact q⟩
  .subst e';obtain ⟨hz,hS,vs,r,m⟩:kvs.length<=sizeLine/\(p==sysModules)=false/\∃vs,KV kvs vs/\s.heap.DictOf (ziw X.prog X.w) p vs:=I.hok p _ hx;have hlen:kvs.length=vs.length:=Paired.length r;exact wpAny_truthy_dict hS m ∅ ⟨H,I.tok _,by rw[zjU r];exact q⟩
 | _=>exact (show False from e).elim
theorem zmv (ha:PE X a ta) (he:∀whole,isTrue a X.env whole=(do let v <-whole;standAt a.pos;holding [v] (truthy v))) :
  PT X a (fun σ H Q=>ta σ H fun x H'=>∃k,TruV X.K x H' k/\Q k H'):=by
 intro pins s σ H Q I h;exact isTrue_plain (thn (ha pins s σ H _ I h) fun v s1 ⟨x,H1,I1,r1,q1⟩=>zsg pins s1 σ H1 x v Q I1 r1 q1) (he _)
theorem zgB {x:V} {us:List Value} (r:Vals [x] us):∃u,us=[u]/\RelV x u:=by
 cases r with
 | cons r1 r2=>cases r2;exact ⟨_,rfl,r1⟩
theorem zqT {x y:V} {us:List Value} (r:Vals [x,y] us):∃u w',us=[u,w']/\RelV x u/\RelV y w':=by
 cases r with
 | cons r1 r2=>
  cases r2 with
  | cons r3 r4=>cases r4;exact ⟨_,_,rfl,r1,r3⟩
theorem zlZ (hc:X.calm=true):CallR X (.builtin "max") (fun xs H Q=>∃i j,xs=[.int i,.int j]/\Q (.int (if j > i then j else i)) H):=by
 intro pins s σ H xs us Q I r h;obtain ⟨i,j,rfl,q⟩:=h;obtain ⟨u,w',rfl,⟨t,rfl⟩,⟨t',rfl⟩⟩:=zqT r;refine max_two_ints (I.ok.hd hc) fun h' tk k=>⟨_,H,I.kept k, ?_,q⟩
 by_cases hj:j > i
 .rw[if_pos hj,if_pos hj];exact ⟨_,rfl⟩
 .rw[if_neg hj,if_neg hj];exact ⟨_,rfl⟩
theorem zmi:CallR X (.type "int") (fun xs H Q=>(∃i,xs=[.int i]/\Q (.int i) H)\/∃k,xs=[.bl k]/\Q (.int (if k then 1 else 0)) H):=by
 intro pins s σ H xs us Q I r h;rcases h with ⟨i,rfl,q⟩ | ⟨k,rfl,q⟩
 .obtain ⟨u,rfl,t,rfl⟩:=zgB r;exact call_int_int ⟨.int i,H,I,⟨_,rfl⟩,q⟩
 .obtain ⟨u,rfl,r1⟩:=zgB r;cases r1;exact call_int_bool ⟨.int (if k then 1 else 0),H,I.tok _,⟨_,rfl⟩,q⟩
end
section
variable {prog:Program} {w:World} {A:Around} {E:Value->Shared->Prop} {s:Shared} {K:PySem.W.Frag} {x dx C f:Addr} {mA:Str->Option Value} {name:Str} {v:Value}
end
section
variable {P:Program} {w:World} {H H':Hp} {h h':Heap} {a C dx:Addr} {fs fs':List (Str×V)}
end
section
variable {X:Cx} {pins:List (Addr×Obj)} {σ:St} {H:Hp} {s:Shared} {a C dx:Addr} {fs:List (Str×V)} {f:Str} {v:V} {A:Around} {E:Value->Shared->Prop}
end
section
variable {X:Cx} {o e value:Expr} {f:Str} {pos pos' tpos:Pos} {ta tv:TE}
end
section
variable {X:Cx} {pins:List (Addr×Obj)} {σ:St} {H:Hp} {s:Shared} {A:Around} {E:Value->Shared->Prop} {Q:Value->Shared->Prop} {c:Value} {b:Bool}
end
structure Room (k:Nat) (A:Around):Prop where
 hd:A.handled=none
 dp:A.depth+3 * k+5 < recursionLimit
 un:A.units+16 * k+200 < cLine
theorem Room.mono {j k:Nat} {A:Around} (r:Room k A) (h:j<=k):Room j A:=⟨r.hd,by have:=r.dp;omega,by have:=r.un;omega⟩
theorem Room.deeper {k:Nat} {A:Around} (r:Room (k+1) A) (env:Env):Room k (A.deeper env):=
 ⟨r.hd,by have:=r.dp;show A.depth+1+3 * k+5 < _;omega,by have:=r.un;show A.units+3+16 * k+200 < _;omega⟩
theorem Room.depth {k:Nat} {A:Around} (r:Room k A):A.depth < recursionLimit:=by have:=r.dp;omega
theorem Room.units {k:Nat} {A:Around} (r:Room k A):A.units+64 < cLine:=by have:=r.un;omega
def tNil:TA:=fun _ H Q=>Q [] H
def zkb (ta:TE) (tr:TA):TA:=fun σ H Q=>ta σ H fun x H1=>tr σ H1 fun xs H2=>Q (x::xs) H2
section
variable {X:Cx} {e:Expr} {es:List Expr} {te:TE} {t:TA} {pos:Pos}
theorem zeQ:PA X [] tNil:=fun _ _ _ _ H Q I h=>Calls.spliced_nil ⟨[],H,I,.nil,h⟩
theorem zdP (ha:PE X e te) (hr:PA X es t) (hs:starEach (e::es) X.env=(false,eval e X.env)::starEach es X.env:=by rfl):PA X (e::es) (zkb te t):=by
 intro pos pins s σ H Q I h;rw[hs]
 show wpAny _ _ (spliced ((false,eval e X.env)::backTo pos (starEach es X.env))) _ _ s
 refine Calls.spliced_cons (thn (ha pins s σ H _ I h) fun u s1 hx__=>?_);obtain ⟨x,H1,I1,r1,q1⟩:=hx__;exact thn (hr pos pins s1 σ H1 _ I1 q1) fun us s2 ⟨xs,H2,I2,r2,q2⟩=>⟨x::xs,H2,I2,.cons r1 r2,q2⟩
def tTup (t:TA):TE:=fun σ H Q=>t σ H fun xs H1=>xs.length<=sizeLine/\∀p,H1 p=none->Q (.ref p) (upd H1 p (.tup xs))
def tLst (t:TA):TE:=fun σ H Q=>t σ H fun xs H1=>xs.length<=sizeLine/\∀p,H1 p=none->Q (.ref p) (upd H1 p (.lst xs))
theorem zrL {x1} (h:PA X es t):PE X (.Tuple es x1 pos) (tTup t):=by
 intro pins s σ H Q I hq;refine wpAny_Tuple_spliced (thn (h pos pins s σ H _ I hq) fun us s1 ⟨xs,H1,I1,r,z,q⟩=>⟨by rw[<-r.length];exact z, ?_⟩);have hf:H1 s1.heap.objs.size=none:=I1.hok.fresh (Nat.le_refl _);refine ⟨.ref s1.heap.objs.size,upd H1 s1.heap.objs.size (.tup xs),I1.laid (t':=s1.toks) (fun b u e=>Heap.get?_push_of_some _ e) (Nat.le_refl _) ?_,rfl,q _ hf⟩;exact ⟨z,us,r,⟨_,Heap.get?_push_size _ rfl,rfl,_,rfl⟩⟩
theorem zsi (h:PA X es t):PE X (.List es pos) (tLst t):=by
 intro pins s σ H Q I hq;refine wpAny_List_spliced (thn (h pos pins s σ H _ I hq) fun us s1 ⟨xs,H1,I1,r,z,q⟩=>⟨by rw[<-r.length];exact z, ?_⟩);have hf:H1 s1.heap.objs.size=none:=I1.hok.fresh (Nat.le_refl _);refine ⟨.ref s1.heap.objs.size,upd H1 s1.heap.objs.size (.lst xs),I1.laid (t':=s1.toks) (fun b u e=>Heap.get?_push_of_some _ e) (Nat.le_refl _) ?_,rfl,q _ hf⟩;exact ⟨z,us,0,r,Heap.get?_push_size _ rfl⟩
end
abbrev Sp:=List V->Hp->VK->XK->Prop
abbrev CXT:=List Env->Hp->Shared->XK->Value->Shared->Prop
structure Env0 (P:Program) (w:World) (K:PySem.W.Frag) (mg:Str->Option Value) (base:Heap) (A:Around) (outer:List Env) (s:Shared) (H:Hp):Prop where
 frames:A.frames=some outer
 mod:Mod K mg base
 bs:∀b o,base.get? b=some o->s.heap.get? b=some o/\H b=none
 bsz:base.objs.size<=s.heap.objs.size
 funs:s.heap.FunFrames base outer
 frf:∀b∈frs outer,H b=none
 hok:HOk P w H s.heap
 bare:AllBare s.gens
def CE (outer:List Env) (P:Program) (w:World) (H:Hp) (s:Shared) (Q:VK) (u:Value) (s':Shared):Prop:=
 ∃v H',s'.os=s.os/\AllBare s'.gens/\Un (frs outer) [] H H' s.heap s'.heap/\HOk P w H' s'.heap/\RelV v u/\Q v H'
def CR (CX:CXT) (outer:List Env) (P:Program) (w:World) (H:Hp) (s:Shared) (Q:VK) (E:XK) (r:Result) (s':Shared):Prop:=
 match r with
 | .ok (.ret u)=>CE outer P w H s Q u s'
 | .ok _=>False
 | .error e=>CX outer H s E e s'
structure FnOk (P:Program) (w:World) (K:PySem.W.Frag) (mg:Str->Option Value) (base:Heap) (CX:CXT) (k:Nat) (f:Addr) (fd:FuncData) (ps:List Str) (sp:Sp):Prop where
 len:∀vs H Q E,sp vs H Q E->vs.length=ps.length
 run:∀(A:Around) (outer:List Env) (s:Shared) (H:Hp) (args:Args) (us:List Value) (vs:List V) (Q:VK) (E:XK),Room k A->Env0 P w K mg base A outer s H->BindsTo s fd args (ps.zip us)->Vals vs us->sp vs H Q E->
  codeAny (model P w) A (.call (.ref f) args) (CR CX outer P w H s Q E) s
section
variable {X:Cx} {pins:List (Addr×Obj)} {σ:St} {H:Hp} {s s':Shared}
theorem Inv.env0 (I:Inv X pins σ H s):Env0 X.prog X.w X.K X.mg X.base X.A X.stack s H:=
 ⟨I.ok.frames,I.ok.mod,I.bs,Nat.le_trans I.ok.bsz I.sz,I.stack,I.stkFree,I.hok,I.bare⟩
theorem Inv.after {Q:VK} {u:Value} (I:Inv X pins σ H s) (h:CE X.stack X.prog X.w H s Q u s'):EP X pins σ Q u s':=by
 obtain ⟨v,H',os,bare,un,hok,r,q⟩:=h;obtain ⟨hh,g,d,t,os'⟩:=s';obtain rfl:os'=s.os:=os;exact ⟨v,H',I.call (h':=hh) (g':=g) (d':=d) (t':=t) (ch:=[]) un hok bare (fun b z=>absurd z (by simp)),r,q⟩
end
def zqy (sp:Sp) (dvs:List V) (E:XK) (t:TA):TE:=fun σ H Q=>t σ H fun vs H1=>sp (vs++dvs) H1 Q E
def Binds (K:PySem.W.Frag) (fd:FuncData) (ps:List Str) (ds:List Value):Prop:=
 ∀(s:Shared) (us:List Value),K.In s.heap->(us++ds).length=ps.length->BindsTo s fd ⟨us,[]⟩ (ps.zip (us++ds))
theorem Binds.all {K:PySem.W.Frag} {fd:FuncData} {ps:List Str} (h:∀us:List Value,us.length=ps.length->bindArgs fd ⟨us,[]⟩=pure (ps.zip us)):Binds K fd ps []:=fun s us _ hl=>by
 rw[List.append_nil] at hl ⊢;exact .of_eq (h us hl)
def zhT (CX:CXT) (X:Cx) (E:XK):Prop:=∀(pins:List (Addr×Obj)) (σ:St) (H:Hp) (s:Shared) (e:Value) (s':Shared),Inv X pins σ H s->CX X.stack H s E e s'->X.xe e s'
section
variable {X:Cx} {CX:CXT} {k:Nat} {f C:Addr} {fd:FuncData} {ps:List Str} {sp:Sp} {dvs:List V} {ds:List Value} {E:XK} {x m:Str} {p pos apos:Pos} {e o:Expr} {es:List Expr} {ta:TE} {t:TA}
theorem zrZ {pins:List (Addr×Obj)} {σ:St} {H:Hp} {s:Shared} {Q:VK} {us:List Value} {vs:List V} (F:FnOk X.prog X.w X.K X.mg X.base CX k f fd ps sp) (hr:Room k X.A) (hb:Binds X.K fd ps ds) (hd:Vals dvs ds) (hx:zhT CX X E)
  (I:Inv X pins σ H s) (r:Vals vs us) (h:sp (vs++dvs) H Q E):wpAny (model X.prog X.w) X.A (call (.ref f) us) (EP X pins σ Q) X.xe s:=by
 have r2:Vals (vs++dvs) (us++ds):=r.append hd;have hl:(us++ds).length=ps.length:=by rw[<-r2.length];exact F.len _ _ _ _ h
 refine wpAny_call (codeAny_mono (F.run X.A X.stack s H ⟨us,[]⟩ (us++ds) (vs++dvs) Q E hr I.env0 (hb s us I.kIn hl) r2 h) fun r s' hq=>?_)
 cases r with
 | error e=>exact hx pins σ H s e s' I hq
 | ok fl=>
  cases fl with
  | ret u=>exact I.after hq
  | next=>exact False.elim hq
  | brk=>exact False.elim hq
  | cont=>exact False.elim hq
theorem zpO (F:FnOk X.prog X.w X.K X.mg X.base CX k f fd ps sp) (hr:Room k X.A) (hg:Gl X x) (hm:X.mg x=some (.ref f)) (hk:PySem.W.keepIn X.K (.ref f)=true) (hb:Binds X.K fd ps ds) (hd:Vals dvs ds) (hx:zhT CX X E)
  (ha:PA X (e::es) t) (hdb:(x==("__debug__":Str))=false:=by decide) (he:starEach (e::es) X.env=(false,eval e X.env)::starEach es X.env:=by rfl) (hpl:(backTo pos (starEach es X.env)).any (·.1)=false:=by rfl) :
  PE X (.Call (.Name x p) (e::es) [] pos) (zqy sp dvs E t):=by
 intro pins s σ H Q I h;refine wpAny_Call_Name_kw (zlF I hg hm ?_ hdb);refine PySem.W.callWith_K (h₀:=X.base) I.ok.mod.kin hk (thn (ha pos pins s σ H _ I h) fun us s1 ⟨vs,H1,I1,r,q⟩=>⟨I1.kIn, ?_⟩) he hpl;exact zrZ F hr hb hd hx I1 r q
end
section
variable {X:Cx} {CX:CXT} {k:Nat} {f C:Addr} {fd:FuncData} {ps ks:List Str} {sp:Sp} {E:XK} {x m:Str} {p pos apos kpos:Pos} {e o:Expr} {es:List Expr} {kws:List Keyword} {te ta:TE} {t tk:TA} {nm:Option Str}
variable {g:List Value->List Value->List Value} {gV:List V->List V->List V}
end
structure zak (N P:List Str) (sc:Scope):Prop where
 kind:sc.kind=.function
 co:sc.isCoroutine=false
 gen:sc.isGenerator=false
 nd:N.Nodup
 pre:N.take P.length=P
 par:∀x∈P,sc.names.lookup x=some .local\/sc.names.lookup x=some .cell
 nofree:∀y∈sc.names,y.2≠.free
theorem zhE {kindOf:Str->Option NameKind} {x:Str}:∀{binds:List (Str×Value)} {m:Str->Option Value},(∀v,(x,v)∉binds)->bindL kindOf binds m x=m x
 | [],_,_=>rfl
 | (n,v)::r,m,h=>by
  unfold bindL;rw[zhE fun w hw=>h w (List.mem_cons_of_mem _ hw)];split
  .have:x≠n:=by rintro rfl;exact h v List.mem_cons_self
   simp[this]
  .rfl
theorem zh9 {kindOf:Str->Option NameKind} {x:Str}:∀{binds:List (Str×Value)} {m:Str->Option Value},(∀v,(x,v)∉binds)->bindC kindOf binds m x=m x
 | [],_,_=>rfl
 | (n,v)::r,m,h=>by
  unfold bindC;rw[zh9 fun w hw=>h w (List.mem_cons_of_mem _ hw)];split
  .rfl
  .have:x≠n:=by rintro rfl;exact h v List.mem_cons_self
   simp[this]
theorem zh1 {kindOf:Str->Option NameKind} {x:Str} {v:Value}:∀{P:List Str} {vs:List Value} {i:Nat} {m:Str->Option Value},P.Nodup->P[i]? = some x->vs[i]? = some v->kindOf x=some .local->
  bindL kindOf (P.zip vs) m x=some v
 | [],_,_,_,_,h,_,_=>by simp at h
 | _::_,[],_,_,_,_,h,_=>by simp at h
 | p::P,w::vs,0,m,nd,h1,h2,hk=>by
  simp at h1 h2;subst h1;subst h2
  show bindL kindOf ((p,w)::P.zip vs) m p=_
  unfold bindL;rw[zhE fun v hv=>(List.nodup_cons.mp nd).1 (List.of_mem_zip hv).1,if_pos hk];simp
 | p::P,w::vs,i+1,m,nd,h1,h2,hk=>by
  show bindL kindOf ((p,w)::P.zip vs) m x=_
  unfold bindL;exact zh1 (i:=i) (List.nodup_cons.mp nd).2 (by simpa using h1) (by simpa using h2) hk
theorem zhW {kindOf:Str->Option NameKind} {x:Str} {v:Value}:∀{P:List Str} {vs:List Value} {i:Nat} {m:Str->Option Value},P.Nodup->P[i]? = some x->vs[i]? = some v->kindOf x≠some .local->
  bindC kindOf (P.zip vs) m x=some v
 | [],_,_,_,_,h,_,_=>by simp at h
 | _::_,[],_,_,_,_,h,_=>by simp at h
 | p::P,w::vs,0,m,nd,h1,h2,hk=>by
  simp at h1 h2;subst h1;subst h2
  show bindC kindOf ((p,w)::P.zip vs) m p=_
  unfold bindC;rw[zh9 fun v hv=>(List.nodup_cons.mp nd).1 (List.of_mem_zip hv).1,if_neg hk];simp
 | p::P,w::vs,i+1,m,nd,h1,h2,hk=>by
  show bindC kindOf ((p,w)::P.zip vs) m x=_
  unfold bindC;exact zhW (i:=i) (List.nodup_cons.mp nd).2 (by simpa using h1) (by simpa using h2) hk
def start (N:List Str) (vs:List V):St:=vs.map some++List.replicate (N.length - vs.length) none
def cxOf (CX:CXT) (P:Program) (w:World) (K:PySem.W.Frag) (mg:Str->Option Value) (base:Heap) (N:List Str) (qual:Str) (scope:Scope) (f:Addr) (cd:Value) (A:Around) (outer:List Env) (s:Shared) (H:Hp) (E:XK):Cx where
 prog:=P
 w:=w
 K:=K
 mg:=mg
 base:=base
 A:=A.deeper (envOfC qual scope s.heap.objs.size f cd)
 N:=N
 s₀:=s
 H₀:=H
 env:=envOfC qual scope s.heap.objs.size f cd
 outer:=outer
 stack:=envOfC qual scope s.heap.objs.size f cd::outer
 ex:=[]
 calm:=true
 fn:=fun _=>true
 pn:=[]
 xe:=fun e s'=>wpAny (model P w) (A.deeper (envOfC qual scope s.heap.objs.size f cd)) (leaving (envOfC qual scope s.heap.objs.size f cd) e) (fun _ s''=>CX outer H s E e s'') (fun e' s''=>CX outer H s E e' s'') s'
theorem zjv {sc:Scope} {n:Nat} {x:Str} (h:sc.names.lookup x=some .cell):∃c,(cellsFrom n sc.names []).lookup x=some c:=by
 have q:=PySem.W.cellsFrom_some sc.names n [] (.inl h);exact Option.isSome_iff_exists.mp q
theorem zlg {CX:CXT} {P:Program} {w:World} {K:PySem.W.Frag} {mg:Str->Option Value} {base:Heap} {N ps:List Str} {qual:Str} {scope:Scope} {f:Addr} {cd:Value} {A:Around} {outer:List Env} {s s1:Shared} {H:Hp} {E:XK} {us:List Value} {vs:List V}
  (S:zak N ps scope) (hd:A.handled=none) (e0:Env0 P w K mg base A outer s H) (hl:vs.length=ps.length) (r:Vals vs us)
  (x:InCallC s s.heap.objs.size (bindL (envOfC qual scope s.heap.objs.size f cd).kindOf (ps.zip us) fun _=>none) (cellsFrom (s.heap.objs.size+1) scope.names []) (bindC (envOfC qual scope s.heap.objs.size f cd).kindOf (ps.zip us) fun _=>none) s1) :
  Inv (cxOf CX P w K mg base N qual scope f cd A outer s H E) [] (start N vs) H s1:=by
 have hpl:ps.length<=N.length:=by have:=congrArg List.length S.pre;rw[List.length_take] at this;omega
 obtain ⟨h1,tk,rfl,hk⟩:=x.done;have noA:∀b:Addr,b∉(cxOf CX P w K mg base N qual scope f cd A outer s H E).ex:=fun b z=>absurd (show b∈([]:List Addr) from z) (by simp)
 refine ⟨⟨e0.mod,S.kind,rfl,rfl,Nat.le_refl _,fun y z c h1 h2=>?_,fun y hy=>?_,fun y c _ h=>?_,fun _=>hd,Around.frames_deeper e0.frames,.inr ⟨rfl,rfl⟩,fun b z=>absurd z (noA b),e0.bs,e0.bsz,fun b _ _=>noA b,fun b z=>absurd z (noA b),e0.funs,e0.frf⟩,
  rfl,e0.bare,Un.kept hk,⟨_,x.toInCall.ns,fun i y v h1 h2 h3=>?_⟩,fun y c h=>⟨_,x.cell y c h⟩,e0.hok.fresh (Nat.le_refl _),fun y c h=>?_,fun p hp=>absurd (show p∈([]:List (Addr×Obj)) from hp) (by simp),e0.hok.kept hk, ?_⟩
 .exact name_of_addr x.apart (PySem.mem_of_lookup h1) (PySem.mem_of_lookup h2)
 .have hy:scope.names.lookup y=some .cell\/scope.names.lookup y=some .free:=hy;rcases hy with hy | hy
  .exact zjv hy
  .exact absurd rfl (S.nofree _ (PySem.mem_of_lookup hy))
 .exact Nat.le_of_lt (x.above y c (PySem.mem_of_lookup h))
 .have hi:i < vs.length:=by
   unfold start at h2
   by_cases hi:i < vs.length
   .exact hi
   .rw[List.getElem?_append_right (by simpa using hi)] at h2;rw[List.getElem?_replicate] at h2;split at h2<;>cases h2
  have ha:vs[i]? = some v:=by
   unfold start at h2;rw[List.getElem?_append_left (by simpa using hi),List.getElem?_map] at h2
   cases e:vs[i]? with
   | none=>rw[e] at h2;cases h2
   | some a=>rw[e] at h2;cases h2;rfl
  obtain ⟨u,hu,rv⟩:=r.get ha;have hp:ps[i]? = some y:=by
   rw[<-S.pre,List.getElem?_take_of_lt ∅];exact h1
  have ndP:ps.Nodup:=by rw[<-S.pre];exact S.nd.sublist (List.take_sublist _ _)
  refine ⟨u,rv, ?_⟩;rcases S.par y (List.mem_of_getElem? hp) with k | k
  .exact .inl ⟨k,zh1 ndP hp hu k⟩
  .obtain ⟨c,e⟩:=zjv (n:=s.heap.objs.size+1) k;refine .inr ⟨.inl k,c,e, ?_⟩;have q:=x.cell y c e;rw[zhW ndP hp hu (by show scope.names.lookup y≠_;rw[k];decide)] at q;exact q
 .exact e0.hok.fresh (Nat.le_of_lt (x.above y c (PySem.mem_of_lookup h)))
 .unfold start
  show _=N.length
  rw[List.length_append,List.length_map,List.length_replicate];omega
theorem zsa {CX:CXT} {P:Program} {w:World} {K:PySem.W.Frag} {mg:Str->Option Value} {base:Heap} {k:Nat} {f:Addr} {name qual:Str} {params:Arguments} {body:List Stmt} {scope:Scope} {dV kV doc pm cdv ct oc:Value} {an od:Option Addr}
  {osl:Array (Option Value)} {N ps:List Str} {sp:Sp} (lk:K.lookup f=some ⟨oc,od,.func (PySem.W.fnOf name qual params body scope dV kV doc pm an cdv ct),osl⟩) (hcd:PySem.W.codeIn K cdv qual=true) (S:zak N ps scope)
  (len:∀vs H Q E,sp vs H Q E->vs.length=ps.length)
  (hbody:∀(A:Around) (outer:List Env) (s:Shared) (H:Hp) (vs:List V) (Q:VK) (E:XK),Room k (A.deeper (envOfC qual scope s.heap.objs.size f cdv))->sp vs H Q E->
   ∃t,PSs (cxOf CX P w K mg base N qual scope f cdv A outer s H E) body t/\t { nx:=fun _ H'=>Q .non H',rt:=Q } (start N vs) H) :
  FnOk P w K mg base CX (k+1) f (PySem.W.fnOf name qual params body scope dV kV doc pm an cdv ct) ps sp:=by
 refine ⟨len,fun A outer s H args us vs Q E hr e0 hb r hsp=>?_⟩;have hl:=len _ _ _ _ hsp;have KX:K.In s.heap:=e0.mod.kin.keeps fun b o e=>(e0.bs b o e).1
 have lim:s.heap.NoLimit:=e0.mod.nolimit.keeps fun b o e=>(e0.bs b o e).1
 have hkind:∀y∈ps.zip us,scope.names.lookup y.1=some .local\/(scope.names.lookup y.1=some .cell/\((cellsFrom (s.heap.objs.size+1) scope.names []).lookup y.1).isSome=true):=fun ⟨n,v⟩ hy=>by
  rcases S.par n (List.of_mem_zip hy).1 with q | q
  .exact .inl q
  .exact .inr ⟨q,PySem.W.cellsFrom_some _ _ _ (.inl q)⟩
 refine codeAny_call_function hr.depth (KX _ _ lk) rfl S.co S.gen rfl (PySem.W.codeRec_of KX hcd) (hb _ _ _ _ ?_);refine wpAny_newFunctionEnv_cells S.kind hkind fun env he s1 x=>?_
 subst he;refine ⟨lim.keeps x.toInCall.keep,codeAny_func ?_⟩;obtain ⟨t,ht,hq⟩:=hbody A outer s H vs Q E (hr.deeper _) hsp;have I:Inv (cxOf CX P w K mg base N qual scope f cdv A outer s H E) [] (start N vs) H s1:=zlg S hr.hd e0 hl r x;refine wpAny_mono (ht [] s1 (start N vs) H _ I hq) (fun fl s' hs=>?_) fun e s' hs=>hs
 have fin:∀{σ':St} {H':Hp} {v:V} {u:Value},Inv (cxOf CX P w K mg base N qual scope f cdv A outer s H E) [] σ' H' s'->RelV v u->Q v H'->CE outer P w H s Q u s':=
  fun {σ' H' v u} J rv q=>⟨v,H',J.os,J.bare,J.base,J.hok,rv,q⟩
 cases fl with
 | ret u=>
  obtain ⟨v,σ',H',J,rv,q⟩:=hs;exact fin J rv q
 | next=>
  obtain ⟨σ',H',J,q⟩:=hs;exact fin (v:=V.non) (u:=Value.none) J rfl q
 | brk=>
  obtain ⟨_,_,_,q⟩:=hs;exact False.elim q
 | cont=>
  obtain ⟨_,_,_,q⟩:=hs;exact False.elim q
section
variable {X:Cx} {x:Str} {p pos:Pos} {e:Expr} {es:List Expr} {t:TA} {id T:String} {r:List V->Hp->VK->Prop}
def tCB (r:List V->Hp->VK->Prop) (t:TA):TE:=fun σ H Q=>t σ H fun vs H1=>r vs H1 Q
theorem zmU (hc:CallR X (.builtin id) r) (hg:Gl X x) (hm:X.mg x=none) (hv:bootBuiltins x=some (.builtin id)) (ha:PA X (e::es) t) (hn:x≠"__name__":=by decide) (hdb:(x==("__debug__":Str))=false:=by decide)
  (he:starEach (e::es) X.env=(false,eval e X.env)::starEach es X.env:=by rfl) (hpl:(backTo pos (starEach es X.env)).any (·.1)=false:=by rfl):PE X (.Call (.Name x p) (e::es) [] pos) (tCB r t):=by
 intro pins s σ H Q I h;refine wpAny_Call_Name_kw (zgR I hg hm hv ?_ hn hdb);exact PyProof.Rows.callWith_builtin1 (thn (ha pos pins s σ H _ I h) fun us s1 ⟨vs,H1,I1,r1,q1⟩=>hc pins s1 σ H1 vs us Q I1 r1 q1) he hpl
theorem zkY (hc:CallR X (.type T) r) (hg:Gl X x) (hm:X.mg x=none) (hv:bootBuiltins x=some (.type T)) (ha:PA X (e::es) t) (hn:x≠"__name__":=by decide) (hdb:(x==("__debug__":Str))=false:=by decide)
  (he:starEach (e::es) X.env=(false,eval e X.env)::starEach es X.env:=by rfl) (hpl:(backTo pos (starEach es X.env)).any (·.1)=false:=by rfl):PE X (.Call (.Name x p) (e::es) [] pos) (tCB r t):=by
 intro pins s σ H Q I h;refine wpAny_Call_Name_kw (zgR I hg hm hv ?_ hn hdb);exact PyProof.Rows.callWith_type1 (thn (ha pos pins s σ H _ I h) fun us s1 ⟨vs,H1,I1,r1,q1⟩=>hc pins s1 σ H1 vs us Q I1 r1 q1) he hpl
end
end L2
namespace HT
open PySem PyProof.Rows
section
open PySem.SeqAt
open PySem.AutoSeq1 (wpAny_loadPart')
open PySem.MeetsSeq PySem.MeetsSeq2 PySem.MeetsSeq3
end
section
variable {prog:Program} {w:World} {A:Around} {E:Value->Shared->Prop} {s:Shared}
def sIx (n d:Nat):Option Int->Nat
 | none=>d
 | some v=>if v < 0 then (v+(n:Int)).toNat else min v.toNat n
theorem zq3 (n d:Nat) (hd:d<=n) (o:Option Int):sIx n d o<=n:=by
 cases o with
 | none=>exact hd
 | some v=>
  show (if v < 0 then (v+(n:Int)).toNat else min v.toNat n)<=n
  by_cases hv:v < 0
  .rw[if_pos hv];omega
  .rw[if_neg hv];exact Nat.min_le_right _ _
theorem zkA (v:Int) (n d:Nat):(if v < 0 then max (v+(n:Int)) 0 else min v (n:Int))=((sIx n d (some v):Nat):Int):=by
 show (if v < 0 then max (v+(n:Int)) 0 else min v (n:Int))=(((if v < 0 then (v+(n:Int)).toNat else min v.toNat n):Nat):Int)
 by_cases hv:v < 0
 .simp only[if_pos hv];omega
 .simp only[if_neg hv];omega
theorem zj4 (lo hi:Option Int) (n:Nat):Builtin.Slice.sliceAdjust lo hi 1 (n:Int)=(((sIx n 0 lo:Nat):Int),((sIx n n hi:Nat):Int)):=by
 have h1:¬((1:Int) < 0):=by omega
 unfold Builtin.Slice.sliceAdjust;simp only[h1,if_false];refine Prod.ext ?_ ?_
 .cases lo with
  | none=>rfl
  | some v=>exact zkA v n 0
 .cases hi with
  | none=>rfl
  | some v=>exact zkA v n n
theorem zkl (i j:Nat):Builtin.Slice.slicePlaces (i:Int) (j:Int) 1=j - i:=by
 unfold Builtin.Slice.slicePlaces;have h1:(1:Int) > 0:=by omega
 simp only[h1,if_true,Int.ediv_one];split<;>omega
theorem zgI {v:Value} {o:Option Int} {Q:Option Int->Shared->Prop} (p:IsPart v o) (h:Q o s):wpAny (model prog w) A (Builtin.Slice.slicePartIndex v) Q E s:=by
 cases p with
 | none=>exact slicePart_none h
 | int i t=>exact slicePart_int h
theorem zfJ {sl:Addr} {vl vu:Value} {lo hi:Option Int} {n:Nat} {Q:Int×Int×Nat->Shared->Prop} (hs:s.heap.IsSliceOf sl vl vu .none) (pl:IsPart vl lo) (pu:IsPart vu hi)
  (h:Q (((sIx n 0 lo:Nat):Int),1,sIx n n hi - sIx n 0 lo) s):wpAny (model prog w) A (Builtin.Slice.sliceApplied (.ref sl) (pure (n:Int))) Q E s:=by
 obtain ⟨os,hos,hcs,hds⟩:=id hs;unfold Builtin.Slice.sliceApplied Builtin.Slice.sliceFields;refine wpAny_bind (wpAny_bind (wpAny_field hos hds (x:=vl) rfl (wpAny_bind (wpAny_field hos hds (x:=vu) rfl (wpAny_bind (wpAny_field hos hds (x:=.none) rfl (wpAny_pure ?_)))))));refine wpAny_bind (slicePart_none ?_)
 show wpAny _ _ (if ((1:Int)==0)=true then _ else _) _ _ s
 rw[if_neg (by decide)];refine wpAny_bind (zgI pl (wpAny_bind (zgI pu (wpAny_bind (wpAny_pure ?_)))))
 show wpAny _ _ (match Builtin.Slice.sliceAdjust lo hi 1 (n:Int) with | (lo,hi)=>pure (lo,(1:Int),Builtin.Slice.slicePlaces lo hi 1)) _ _ s
 rw[zj4 lo hi n]
 show wpAny _ _ (pure (((sIx n 0 lo:Nat):Int),(1:Int),Builtin.Slice.slicePlaces ((sIx n 0 lo:Nat):Int) ((sIx n n hi:Nat):Int) 1)) _ _ s
 rw[zkl];exact wpAny_pure h
theorem zns (xs:Array Value) (i k:Nat):((List.range k).filterMap fun (m:Nat)=>xs[((i:Int)+(m:Int) * 1).toNat]?).toArray=((xs.toList.drop i).take k).toArray:=by
 have e:(fun (m:Nat)=>xs[((i:Int)+(m:Int) * 1).toNat]?)=fun m=>xs[i+m]? := by
  funext m
  have:((i:Int)+(m:Int) * 1).toNat=i+m:=by omega
  rw[this]
 rw[e]
 have:=pick_run xs i k
 rw[List.filterMap_map] at this;have e2:((fun x=>xs[x]?) ∘ fun x=>i+x)=fun m=>xs[i+m]? := rfl
 rw[e2] at this;rw[this]
theorem ze4 {t sl:Addr} {items:Array Value} {vl vu:Value} {lo hi:Option Int} {Q:Value->Shared->Prop} (ht:IsTup s.heap t items) (hs:s.heap.IsSliceOf sl vl vu .none) (pl:IsPart vl lo) (pu:IsPart vu hi)
  (hw:¬(sIx items.size 0 lo=0/\sIx items.size items.size hi=items.size))
  (h:Q (.ref s.heap.objs.size) { s with heap:=s.heap.push { cls:=.type "tuple",data:=.seq ((items.toList.drop (sIx items.size 0 lo)).take (sIx items.size items.size hi - sIx items.size 0 lo)).toArray } })
  (hsz:items.size<=sizeLine):wpAny (model prog w) A (getItem (.ref t) (.ref sl)) Q E s:=by
 have htake:sizeOk (.seq ((items.toList.drop (sIx items.size 0 lo)).take (sIx items.size items.size hi - sIx items.size 0 lo)).toArray):=by
  show ((items.toList.drop (sIx items.size 0 lo)).take (sIx items.size items.size hi - sIx items.size 0 lo)).toArray.size<=sizeLine
  rw[List.size_toArray,List.length_take,List.length_drop,Array.length_toList];omega
 have hj:sIx items.size items.size hi<=items.size:=zq3 _ _ (Nat.le_refl _) hi;obtain ⟨os,hos,hcs,hds⟩:=id hs;have hTs:s.TypeIs (.ref sl) "slice":=⟨os,hos,hcs⟩;unfold getItem
 try with_reducible refine wpAny_holding ?_
 first | refine wpAny_bind (wpAny_pure ?_) | skip
 refine wpAny_bind (wpAny_sequenceKey ht.typeIs (by decide) ?_);refine wpAny_bind (wpAny_callSpecial?_slot (name:=Str.ofString "__getitem__") ht.typeIs PyProof.Rows.slot_tuple_getitem
  (wpAny_call_entry PyProof.Rows.slot_tuple_getitem ht.typeIs entry_tuple_getitem ?_ (args_tuple_getitem _ _)))
 show wpAny _ _ (Builtin.Tuple.tupleItemsOf (.ref t) >>= _) _ _ s
 refine wpAny_bind (tupleItemsOf_ ht ?_);refine wpAny_bind (wpAny_typeOf hTs ?_);rw[if_pos (by decide)];refine wpAny_bind (zfJ hs pl pu ?_);have hno:¬((((sIx items.size 0 lo:Nat):Int)==0&&(1:Int)==1&&(sIx items.size items.size hi - sIx items.size 0 lo)==items.size)=true):=by
  intro q;rw[Bool.and_eq_true,Bool.and_eq_true] at q;have q1:((sIx items.size 0 lo:Nat):Int)=0:=eq_of_beq q.1.1;have q2:sIx items.size items.size hi - sIx items.size 0 lo=items.size:=eq_of_beq q.2;exact hw ⟨by omega,by omega⟩
 show wpAny _ _ (if (((sIx items.size 0 lo:Nat):Int)==0&&(1:Int)==1&&(sIx items.size items.size hi - sIx items.size 0 lo)==items.size)=true then _ else _) _ _ s
 rw[if_neg hno,zns]
 first
  | exact wpAny_bind (m:=Builtin.Tuple.tupleExact _) (wpAny_newObj_type (wpAny_pure ⟨_,rfl,wpAny_pure h⟩) htake)
  | exact wpAny_bind (m:=Builtin.Tuple.tupleExact _) (wpAny_newObj_type (wpAny_bind (wpAny_pure (wpAny_pure ⟨_,rfl,wpAny_pure h⟩))) htake)
  | exact wpAny_bind (wpAny_bind (m:=Builtin.Tuple.tupleExact _) (wpAny_newObj_type (wpAny_pure (wpAny_pure ⟨_,rfl,wpAny_pure h⟩)) htake))
  | exact wpAny_bind (wpAny_bind (m:=Builtin.Tuple.tupleExact _) (wpAny_newObj_type (wpAny_pure ⟨_,rfl,wpAny_pure h⟩) htake))
end
end HT
namespace L2
open PySem PySem.Spec PyProof.Rows
abbrev TO:=St->Hp->(Option Int->Hp->Prop)->Prop
def PO (X:Cx) (e:Option Expr) (t:TO):Prop:=
 ∀(pins:List (Addr×Obj)) (s:Shared) (σ:St) (H:Hp) (Q:Option Int->Hp->Prop),Inv X pins σ H s->t σ H Q->
  wpAny (model X.prog X.w) X.A (evalPart e X.env) (fun u s'=>∃o H',Inv X pins σ H' s'/\IsPart u o/\Q o H') X.xe s
def zpd:TO:=fun _ H Q=>Q none H
def zuj (t:TE):TO:=fun σ H Q=>t σ H fun x H1=>∃i,x=.int i/\Q (some i) H1
theorem zgT {ns:List Int}:∀{us:List Value},Vals (ns.map V.int) us->IntsAre us ns:=by
 induction ns with
 | nil=>intro us r;rw[List.map_nil] at r;cases r;exact .nil
 | cons n ns ih=>
  intro us r;rw[List.map_cons] at r
  cases r with
  | cons r1 r2=>
   obtain ⟨t,e⟩:=r1;subst e;exact .cons n t (ih r2)
section
variable {X:Cx} {e:Expr} {te:TE} {lo hi:Option Expr} {tl th:TO} {pos p2:Pos}
theorem zpn:PO X none zpd:=by
 intro pins s σ H Q I h;rw[evalPart_none];exact wpAny_pure ⟨none,H,I,.none,h⟩
theorem zpc (h:PE X e te):PO X (some e) (zuj te):=by
 intro pins s σ H Q I hw;rw[evalPart_some];refine thn (h pins s σ H _ I hw) fun u s1 hx__=>?_
 obtain ⟨x,H1,I1,r1,q1⟩:=hx__;obtain ⟨i,rfl,q⟩:=q1;obtain ⟨t,rfl⟩:=r1;exact ⟨some i,H1,I1,.int i t,q⟩
def SlR (X:Cx) (r:V->Option Int->Option Int->Hp->VK->Prop):Prop:=
 ∀(pins:List (Addr×Obj)) (s:Shared) (σ:St) (H:Hp) (x:V) (v vl vu:Value) (lo hi:Option Int) (sl:Addr) (Q:VK),Inv X pins σ H s->RelV x v->s.heap.IsSliceOf sl vl vu .none->IsPart vl lo->IsPart vu hi->r x lo hi H Q->
  ∃T id,typeLookup (.type T) "__getitem__"=pure (some (.builtin id))/\s.TypeIs v T/\wpAny (model X.prog X.w) X.A (getItem v (.ref sl)) (EP X pins σ Q) X.xe s
theorem SlR.or {r r':V->Option Int->Option Int->Hp->VK->Prop} (h:SlR X r) (h':SlR X r'):SlR X (fun x lo hi H Q=>r x lo hi H Q\/r' x lo hi H Q):=by
 intro pins s σ H x v vl vu lo hi sl Q I rx hs pl pu q;rcases q with q | q
 .exact h pins s σ H x v vl vu lo hi sl Q I rx hs pl pu q
 .exact h' pins s σ H x v vl vu lo hi sl Q I rx hs pl pu q
def tSl (r:V->Option Int->Option Int->Hp->VK->Prop) (te:TE) (tl th:TO):TE:=fun σ H Q=>te σ H fun x H1=>tl σ H1 fun l H2=>th σ H2 fun u H3=>r x l u H3 Q
theorem znc {r:V->Option Int->Option Int->Hp->VK->Prop} (hr:SlR X r) (he:PE X e te) (hl:PO X lo tl) (hu:PO X hi th):PE X (.Subscript e (.Slice lo hi none p2) pos) (tSl r te tl th):=by
 intro pins s σ H Q I h;refine Subscript_ (thn (he pins s σ H _ I h) fun v s1 hx__=>?_);obtain ⟨x,H1,I1,r1,q1⟩:=hx__;refine wpAny_Slice (thn (hl pins s1 σ H1 _ I1 q1) fun vl s2 ⟨l,H2,I2,pl,q2⟩=>thn (hu pins s2 σ H2 _ I2 q2) fun vu s3 hx__=>?_);obtain ⟨u,H3,I3,pu,q3⟩:=hx__;rw[evalPart_none];refine wpAny_pure ?_;have I4:Inv X pins σ H3 { s3 with heap:=s3.heap.push { cls:=.type "slice",data:=.fields #[vl,vu,.none] } }:=I3.kept (t':=s3.toks) fun b ob q=>Heap.get?_push_of_some _ q
 obtain ⟨T,id,hT,ht,hg⟩:=hr pins { s3 with heap:=s3.heap.push { cls:=.type "slice",data:=.fields #[vl,vu,.none] } } σ H3 x v vl vu l u s3.heap.objs.size Q I4 r1 (Heap.IsSliceOf.new ..) pl pu q3
 show wpAny (model X.prog X.w) X.A (subscriptTail e (.Slice lo hi none p2) v (.ref s3.heap.objs.size)) (EP X pins σ Q) X.xe { s3 with heap:=s3.heap.push { cls:=.type "slice",data:=.fields #[vl,vu,.none] } }
 exact tail_any (ops:=[.ref s3.heap.objs.size,v]) ht hT hg (by with_unfolding_all rfl)
def cutV (xs:List V) (lo hi:Option Int):List V:=(xs.drop (HT.sIx xs.length 0 lo)).take (HT.sIx xs.length xs.length hi - HT.sIx xs.length 0 lo)
theorem zfZ (xs:List V) (lo hi:Option Int):(cutV xs lo hi).length<=xs.length:=by
 unfold cutV;rw[List.length_take,List.length_drop];omega
def rSlT (K:PySem.W.Frag):V->Option Int->Option Int->Hp->VK->Prop:=fun x lo hi H Q=>∃a xs,x=.ref a/\SqT K H a xs/\
 ¬(HT.sIx xs.length 0 lo=0/\HT.sIx xs.length xs.length hi=xs.length)/\∀p,H p=none->Q (.ref p) (upd H p (.tup (cutV xs lo hi)))
theorem zrR:SlR X (rSlT X.K):=by
 intro pins s σ H x v vl vu lo hi sl Q I rx hs pl pu h;obtain ⟨a,xs,rfl,hx,hw,q⟩:=h;cases rx;obtain ⟨its,r,ht,hz⟩:=I.tuple hx;have hlen:its.toArray.size=xs.length:=by rw[List.size_toArray];exact r.length.symm
 refine ⟨"tuple",_,PyProof.Rows.slot_tuple_getitem.lookup,ht.typeIs, ?_⟩;refine HT.ze4 ht hs pl pu (by rw[hlen];exact hw) ?_ (by rw[hlen];exact hz);rw[hlen];refine ⟨.ref s.heap.objs.size,_,I.laid (t':=s.toks) (o:=.tup (cutV xs lo hi)) (fun b ob q=>Heap.get?_push_of_some _ q) (Nat.le_refl _) ?_,rfl,q _ (I.hok.fresh (Nat.le_refl _))⟩;exact ⟨Nat.le_trans (zfZ xs lo hi) hz,_,(r.drop (HT.sIx xs.length 0 lo)).take (HT.sIx xs.length xs.length hi - HT.sIx xs.length 0 lo),IsTup.new _ _⟩
end
def ixN (n:Nat) (i:Int):Option Nat:=if 0<=i then (if i < n then some i.toNat else none) else if -(n:Int)<=i then some (i+n).toNat else none
def atI {α:Type} (xs:List α) (i:Int):Option α:=(ixN xs.length i).bind fun j=>xs[j]?
theorem ziL {n:Nat} {i:Int} {j:Nat} (h:ixN n i=some j):seqIndex? i n=some j/\j < n/\-(n:Int)<=i/\i < n:=by
 unfold ixN at h
 by_cases h0:0<=i
 .rw[if_pos h0] at h
  by_cases h1:i < n
  .rw[if_pos h1] at h;have e:i.toNat=j:=Option.some.inj h;exact ⟨by rw[seqIndex_of h0 h1,e],by omega,by omega,h1⟩
  .rw[if_neg h1] at h;cases h
 .rw[if_neg h0] at h
  by_cases h1:-(n:Int)<=i
  .rw[if_pos h1] at h;have e:(i+n).toNat=j:=Option.some.inj h;exact ⟨by rw[seqIndex_neg ∅ h1,e],by omega,h1,by omega⟩
  .rw[if_neg h1] at h;cases h
theorem ziF {α:Type} {xs:List α} {i:Int} {v:α} (h:atI xs i=some v):∃j,seqIndex? i xs.length=some j/\xs[j]? = some v/\j < xs.length/\-(xs.length:Int)<=i/\i < xs.length:=by
 unfold atI at h
 cases e:ixN xs.length i with
 | none=>rw[e] at h;cases h
 | some j=>
  rw[e] at h;obtain ⟨h1,h2,h3,h4⟩:=ziL e;exact ⟨j,h1,h,h2,h3,h4⟩
theorem zpP {α:Type} {xs:List α} {j:Nat} {v:α} (h:xs[j]? = some v):atI xs (j:Int)=some v:=by
 have hj:j < xs.length:=(List.getElem?_eq_some_iff.mp h).1;have e:ixN xs.length (j:Int)=some j:=by
  unfold ixN;rw[if_pos ∅,if_pos ∅];simp
 unfold atI;rw[e];exact h
def zlD (b:Expr):Prop:=∀o i,subscripted b false o i=operate [o,i] (getItem o i)
def IxR (X:Cx) (r:R2):Prop:=
 ∀(value slice:Expr) (pins:List (Addr×Obj)) (s:Shared) (σ:St) (H:Hp) (x y:V) (v u:Value) (Q:VK),Inv X pins σ H s->RelV x v->RelV y u->r x y H Q->
  subscripted slice false v u=operate [v,u] (getItem v u)->wpAny (model X.prog X.w) X.A (subscriptTail value slice v u) (EP X pins σ Q) X.xe s
def MtR (X:Cx) (id:String) (r:V->List V->Hp->VK->Prop):Prop:=
 ∀(pins:List (Addr×Obj)) (s:Shared) (σ:St) (H:Hp) (x:V) (xs:List V) (v:Value) (us:List Value) (Q:VK),Inv X pins σ H s->RelV x v->Vals xs us->r x xs H Q->
  wpAny (model X.prog X.w) X.A (call (.builtin id) (v::us)) (EP X pins σ Q) X.xe s
section
variable {X:Cx} {a b:Expr} {ta tb:TE} {pos:Pos}
theorem IxR.or {r r':R2} (h:IxR X r) (h':IxR X r'):IxR X (fun x y H Q=>r x y H Q\/r' x y H Q):=by
 intro value slice pins s σ H x y v u Q I rx ry q hs;rcases q with q | q
 .exact h value slice pins s σ H x y v u Q I rx ry q hs
 .exact h' value slice pins s σ H x y v u Q I rx ry q hs
theorem ztr {r:R2} (hr:IxR X r) (ha:PE X a ta) (hb:PE X b tb) (hs:zlD b):PE X (.Subscript a b pos) (tOp r ta tb):=by
 intro pins s σ H Q I h;exact Subscript_ (binT ha hb I h fun v u s2 x y H2 I2 rx ry q=>hr a b pins s2 σ H2 x y v u Q I2 rx ry q (hs _ _))
def rIxL (K:PySem.W.Frag):R2:=fun x y H Q=>∃p xs i v,x=.ref p/\y=.int i/\SqL K H p xs/\atI xs i=some v/\Q v H
def rIxT (K:PySem.W.Frag):R2:=fun x y H Q=>∃p xs i v,x=.ref p/\y=.int i/\SqT K H p xs/\atI xs i=some v/\Q v H
def rIxS:R2:=fun x y H Q=>∃z i c,x=.str z/\y=.int i/\z.length<=sizeLine/\atI z.cps.toList i=some c/\Q (.str ⟨#[c]⟩) H
theorem ix_list:IxR X (rIxL X.K):=by
 intro value slice pins s σ H x y v u Q I rx ry h hs;obtain ⟨p,xs,i,z,rfl,rfl,hq,he,q⟩:=h;cases rx;obtain ⟨t,rfl⟩:=ry;obtain ⟨its,r,pl,hz⟩:=I.list hq;obtain ⟨j,h1,h2,h3,h4,h5⟩:=ziF he;obtain ⟨w,ew,rw'⟩:=r.get h2;have hl:=r.length;have hn:=zgE;have fin:EP X pins σ Q w s:=⟨z,H,I,rw',q⟩
 by_cases h0:0<=i
 .have hj:i.toNat=j:=by
   rw[seqIndex_of h0 h5] at h1;exact Option.some.inj h1
  exact item_listR pl.isList h0 ∅ (by rw[hj];simpa using ew) fin hs
 .have hj:(i+(its.toArray.size:Int)).toNat=j:=by
   rw[seqIndex_neg ∅ h4] at h1;rw[List.size_toArray,<-hl];exact Option.some.inj h1
  exact subscriptTail_builtinR (x:=w) pl.isList.typeIs slot_list_getitem.lookup
   (wpAny_getItem_list_neg (Q:=fun r s'=>r=w/\EP X pins σ Q r s') pl.isList ∅ (by rw[List.size_toArray]<;>omega) ∅ (by rw[hj];simpa using ew) ⟨rfl,fin⟩) hs
theorem ix_tup:IxR X (rIxT X.K):=by
 intro value slice pins s σ H x y v u Q I rx ry h hs;obtain ⟨p,xs,i,z,rfl,rfl,hq,he,q⟩:=h;cases rx;obtain ⟨t,rfl⟩:=ry;obtain ⟨its,r,pl,hz⟩:=I.tuple hq;obtain ⟨j,h1,h2,h3,h4,h5⟩:=ziF he;obtain ⟨w,ew,rw'⟩:=r.get h2;have hl:=r.length;have hn:=zgE;have fin:EP X pins σ Q w s:=⟨z,H,I,rw',q⟩;exact subscriptTail_builtinR (x:=w) pl.typeIs slot_tuple_getitem.lookup
  (getItem_tuple (j:=j) (Q:=fun r s'=>r=w/\EP X pins σ Q r s') pl ∅ ∅ (by rw[List.size_toArray,<-hl];exact h1) (by simpa using ew) ⟨rfl,fin⟩) hs
theorem zr8:IxR X rIxS:=by
 intro value slice pins s σ H x y v u Q I rx ry h hs;obtain ⟨z,i,c,rfl,rfl,hz,he,q⟩:=h;obtain ⟨t,rfl⟩:=rx;obtain ⟨t',rfl⟩:=ry;obtain ⟨j,h1,h2,h3,h4,h5⟩:=ziF he;have hl:z.cps.toList.length=z.length:=by simp[Str.length]
 rw[hl] at h1 h4 h5;have hn:=zgE;exact tail_any (typeIs_str s z t) slot_str_getitem.lookup (getItem_str (c:=c) (by
  have e1:decide (i < -(2 ^ 63:Int))=false:=decide_eq_false ∅;have e2:decide (i≥2 ^ 63)=false:=decide_eq_false ∅;rw[e1,e2,Bool.or_false]) (by rw[h1];simpa using h2) ⟨.str ⟨#[c]⟩,H,I.tok _,⟨_,rfl⟩,q⟩) hs
def rIx (K:PySem.W.Frag):R2:=fun x y H Q=>rIxL K x y H Q\/rIxT K x y H Q\/rIxS x y H Q
theorem zqL:IxR X (rIx X.K):=ix_list.or (ix_tup.or zr8)
theorem zj1 (its:List Value) (n j:Nat) (u:Value):Obj.mapSeq (·.setIfInBounds j u) { cls:=.type "list",data:=.seq its.toArray n }={ cls:=.type "list",data:=.seq (its.set j u).toArray n }:=by
 simp[Obj.mapSeq]
theorem Inv.lst {pins:List (Addr×Obj)} {σ:St} {H:Hp} {s:Shared} {p:Addr} {xs:List V} (I:Inv X pins σ H s) (h:H p=some (.lst xs)) :
  ∃(its:List Value) (n:Nat),Vals xs its/\s.heap.get? p=some { cls:=.type "list",data:=.seq its.toArray n }/\xs.length<=sizeLine:=by
 obtain ⟨z,its,n,r,e⟩:=I.hok p _ h;exact ⟨its,n,r,e,z⟩
theorem Inv.lstUpd {pins:List (Addr×Obj)} {σ:St} {H:Hp} {s:Shared} {p:Addr} {xs ys:List V} {its its':List Value} {n n':Nat} {f:Obj->Obj} (I:Inv X pins σ H s) (h:H p=some (.lst xs))
  (ho:s.heap.get? p=some { cls:=.type "list",data:=.seq its.toArray n }) (hf:f { cls:=.type "list",data:=.seq its.toArray n }={ cls:=.type "list",data:=.seq its'.toArray n' }) (r:Vals ys its') (hz:ys.length<=sizeLine) (t:Nat) :
  Inv X pins σ (upd H p (.lst ys)) { s with heap:=s.heap.update p f,toks:=t }:=by
 have e:(s.heap.update p f).get? p=some { cls:=.type "list",data:=.seq its'.toArray n' }:=by
  rw[Heap.get?_update_self f ho (by rw[hf]<;>rfl),hf]
 refine I.write (x:=p) (e:=p) (by rw[h];trivial) (.inl rfl) (fun b u hb q=>(Heap.get?_update_other _ _ (Ne.symm hb)).trans q) ⟨_,e⟩ ?_;exact ⟨hz,its',n',r,e⟩
def zrS:V->V->V->Hp->(Hp->Prop)->Prop:=fun o i v H Q=>∃p xs k j,o=.ref p/\i=.int k/\H p=some (.lst xs)/\ixN xs.length k=some j/\Q (upd H p (.lst (xs.set j v)))
theorem zmL:PSet X zrS:=by
 intro pins s σ H o i v ov iv u Q I ro ri rv h;obtain ⟨p,xs,k,j,rfl,rfl,hp,hj,q⟩:=h;cases ro;obtain ⟨t,rfl⟩:=ri;obtain ⟨its,n,r,ho,hz⟩:=I.lst hp;obtain ⟨h1,h2,h3,h4⟩:=ziL hj;have hl:=r.length;have hn:=zgE;have I':Inv X pins σ (upd H p (.lst (xs.set j v))) { s with heap:=s.heap.update p (Obj.mapSeq (·.setIfInBounds j u)) }:=
  I.lstUpd hp ho (zj1 its n j u) (r.set rv j) (by rw[List.length_set];exact hz) s.toks
 by_cases h0:0<=k
 .have hk:k.toNat=j:=by
   rw[seqIndex_of h0 h4] at h1;exact Option.some.inj h1
  exact PySem.W.ki_setAt ho h0 ∅ (by rw[List.size_toArray,<-hl];exact h4) (by rw[hk];exact ⟨_,I',q⟩)
 .have hk:(k+(its.toArray.size:Int)).toNat=j:=by
   rw[seqIndex_neg ∅ h3] at h1;rw[List.size_toArray,<-hl];exact Option.some.inj h1
  exact PySem.W.ki_setBack ho ∅ (by rw[List.size_toArray,<-hl];exact h3) ∅ (by rw[hk];exact ⟨_,I',q⟩)
theorem zhs (lo hi:Option Int) (n:Nat):(sliceBounds lo hi none n).1=((HT.sIx n 0 lo:Nat):Int)/\(sliceBounds lo hi none n).2.1=((HT.sIx n n hi:Nat):Int)/\(sliceBounds lo hi none n).2.2=1:=by
 refine ⟨?_, ?_,rfl⟩
 .cases lo with
  | none=>simp[sliceBounds,HT.sIx]
  | some i=>
   simp only[sliceBounds,HT.sIx,Option.getD_none,show (1:Int) > 0 by decide,if_true]
   by_cases h:i < 0
   .simp only[h,if_true]<;>omega
   .simp only[h,if_false]<;>omega
 .cases hi with
  | none=>simp[sliceBounds,HT.sIx]
  | some i=>
   simp only[sliceBounds,HT.sIx,Option.getD_none,show (1:Int) > 0 by decide,if_true]
   by_cases h:i < 0
   .simp only[h,if_true]<;>omega
   .simp only[h,if_false]<;>omega
theorem zg3 (its:List Value) (lo hi:Option Int):slicePick its.toArray lo hi none=((its.drop (HT.sIx its.length 0 lo)).take (HT.sIx its.length its.length hi - HT.sIx its.length 0 lo)).toArray:=by
 obtain ⟨h1,h2,h3⟩:=zhs lo hi its.toArray.size;unfold slicePick;rw[h1,h2,h3];simp only[sliceRange_one,pick_run,List.size_toArray]<;>rfl
def rSlL (K:PySem.W.Frag):V->Option Int->Option Int->Hp->VK->Prop:=fun x lo hi H Q=>∃a xs,x=.ref a/\SqL K H a xs/\∀p,H p=none->Q (.ref p) (upd H p (.lst (cutV xs lo hi)))
theorem sl_list:SlR X (rSlL X.K):=by
 intro pins s σ H x v vl vu lo hi sl Q I rx hs pl pu h;obtain ⟨a,xs,rfl,hx,q⟩:=h;cases rx;obtain ⟨its,r,ht,hz⟩:=I.list hx;have hlen:=r.length;refine ⟨"list",_,slot_list_getitem.lookup,ht.isList.typeIs, ?_⟩;refine wpAny_getItem_list_slice ht.isList hs pl pu .none (by simp) ?_ (by rw[List.size_toArray]<;>omega);rw[zg3,<-hlen];refine ⟨.ref s.heap.objs.size,_,I.laid (t':=s.toks) (o:=.lst (cutV xs lo hi)) (fun b ob q=>Heap.get?_push_of_some _ q) (Nat.le_refl _) ?_,rfl,q _ (I.hok.fresh (Nat.le_refl _))⟩;exact ⟨Nat.le_trans (zfZ xs lo hi) hz,_,0,(r.drop (HT.sIx xs.length 0 lo)).take (HT.sIx xs.length xs.length hi - HT.sIx xs.length 0 lo),Heap.get?_push_size _ rfl⟩
theorem zhv:CallR X (.builtin "len") (fun xs H Q=>∃p ys,xs=[.ref p]/\(SqL X.K H p ys\/SqT X.K H p ys)/\Q (.int ys.length) H):=by
 intro pins s σ H xs us Q I r h;obtain ⟨p,ys,rfl,hq,q⟩:=h;obtain ⟨u,rfl,rx⟩:=zgB r;cases rx;have hn:=zgE;rcases hq with hq | hq
 .obtain ⟨its,r',pl,hz⟩:=I.list hq;have hlen:=r'.length;exact Calls.call_len_list pl.isList (by simp only[List.size_toArray]<;>omega) ⟨.int ys.length,H,I.tok _,⟨s.toks+1,by rw[List.size_toArray,hlen]⟩,q⟩
 .obtain ⟨its,r',pl,hz⟩:=I.tuple hq;have hlen:=r'.length;exact len_tuple pl (by simp only[List.size_toArray]<;>omega) ⟨.int ys.length,H,I.tok _,⟨s.toks+1,by rw[List.size_toArray,hlen]⟩,q⟩
theorem zhU:CallR X (.type "list") (fun xs H Q=>∃p ys,xs=[.ref p]/\(SqL X.K H p ys\/SqT X.K H p ys)/\∀l,H l=none->Q (.ref l) (upd H l (.lst ys))):=by
 intro pins s σ H xs us Q I r h;obtain ⟨p,ys,rfl,hq,q⟩:=h;obtain ⟨u,rfl,rx⟩:=zgB r;cases rx;have fin:∀(its:List Value),Vals ys its->ys.length<=sizeLine->∀(h':Heap) (c':Nat),(∀b o',s.heap.get? b=some o'->h'.get? b=some o')->
   h'.get? s.heap.objs.size=some { cls:=.type "list",dict:=none,data:=.seq its.toArray c',slots:=#[] }->EP X pins σ Q (.ref s.heap.objs.size) { s with heap:=h' }:=fun its r' hz h' c' kp e=>
  ⟨.ref s.heap.objs.size,_,I.laid (t':=s.toks) kp (Nat.le_refl _) (show ObjOk X.prog X.w _ h' _ (.lst ys) from ⟨hz,its,c',r',e⟩),rfl,q _ (I.hok.fresh (Nat.le_refl _))⟩
 rcases hq with hq | hq
 .obtain ⟨its,r',pl,hz⟩:=I.list hq;have hlen:=r'.length;obtain ⟨o,ho,hc,n,hd⟩:=pl.isList;exact call_list_seq p (.inl rfl) ho hc hd (fun h' c' kp e=>fin its r' hz h' c' kp e) (by simp only[List.size_toArray]<;>omega)
 .obtain ⟨its,r',pl,hz⟩:=I.tuple hq;have hlen:=r'.length;obtain ⟨o,ho,hc,n,hd⟩:=pl;exact call_list_seq p (.inr rfl) ho hc hd (fun h' c' kp e=>fin its r' hz h' c' kp e) (by simp only[List.size_toArray]<;>omega)
def tyV (K:PySem.W.Frag) (T:String) (x:V) (H:Hp):Prop:=match x with
 | .str _=>T="str"
 | .int _=>T="int"
 | .ref p=>(T="list"/\∃xs,SqL K H p xs)\/(T="tuple"/\∃o,K.lookup p=some o/\o.cls=.type "tuple"/\o.dict=none)\/
   (T="dict"/\((∃kvs,H p=some (.dK kvs))\/∃kvs,H p=some (.dT kvs)))\/(T="set"/\∃S n,H p=some (.set S n))
 | _=>False
theorem znP {pins:List (Addr×Obj)} {σ:St} {H:Hp} {s:Shared} {T:String} {x:V} {v:Value} (I:Inv X pins σ H s) (r:RelV x v) (ty:tyV X.K T x H) :
  s.TypeIs v T/\∀a,v=.ref a->∃ob,s.heap.get? a=some ob/\ob.dict=none:=by
 cases x with
 | str z=>
  obtain ⟨t,rfl⟩:=r
  cases (show T="str" from ty)
  exact ⟨typeIs_str s z t,fun _ e=>nomatch e⟩
 | int i=>
  obtain ⟨t,rfl⟩:=r
  cases (show T="int" from ty)
  exact ⟨typeIs_int s i t,fun _ e=>nomatch e⟩
 | ref p=>
  cases r;rcases ty with ⟨rfl,xs,hq⟩ | ⟨rfl,o,hk,hc,hd⟩ | ⟨rfl,hk⟩ | ⟨rfl,S,n,hk⟩
  .obtain ⟨its,_,pl,_⟩:=I.list hq;refine ⟨pl.isList.typeIs,fun a e=>?_⟩;cases e;obtain ⟨o,n,e,c,hd,_⟩:=pl;exact ⟨o,e,hd⟩
  .refine ⟨⟨o,I.kIn p o hk,hc⟩,fun a e=>?_⟩;cases e;exact ⟨o,I.kIn _ o hk,hd⟩
  .have z:∃o,s.heap.get? p=some o/\o.ExactDict:=by
    rcases hk with ⟨kvs,hk⟩ | ⟨kvs,hk⟩
    .obtain ⟨_,_,_,_,o,_,_,e,ex,_⟩:=I.hok p _ hk;exact ⟨o,e,ex⟩
    .obtain ⟨_,_,_,_,o,_,_,e,ex,_⟩:=I.hok p _ hk;exact ⟨o,e,ex⟩
   obtain ⟨o,e,ex⟩:=z;refine ⟨⟨o,e,ex.1⟩,fun a e2=>?_⟩;cases e2;exact ⟨o,e,ex.2.1⟩
  .obtain ⟨o,_,_,_,e,ex,_⟩:=I.hok p _ hk;refine ⟨⟨o,e,ex.1⟩,fun a e2=>?_⟩;cases e2;exact ⟨o,e,ex.2.1⟩
 | _=>exact False.elim ty
def tBM0 (K:PySem.W.Frag) (T:String) (r:V->List V->Hp->VK->Prop) (to:TE):TE:=fun σ H Q=>to σ H fun x H1=>tyV K T x H1/\r x [] H1 Q
def tBM (K:PySem.W.Frag) (T:String) (r:V->List V->Hp->VK->Prop) (to:TE) (t:TA):TE:=fun σ H Q=>to σ H fun x H1=>tyV K T x H1/\t σ H1 fun xs H2=>r x xs H2 Q
variable {o e:Expr} {es:List Expr} {to:TE} {t:TA} {name:Str} {apos cpos:Pos} {T id:String} {r:V->List V->Hp->VK->Prop}
theorem zrH (pa:PlainAttrs T) (slot:Slot T name id) (hty:typeOf (.builtin id)=pure (.type "method_descriptor")) (hm:MtR X id r) (ho:PE X o to)
  (hbase:attributeBase o name X.env (eval o X.env)=eval o X.env:=by rfl) (hline:(apos.endLine==cpos.line)=true:=by rfl):PE X (.Call (.Attribute o name apos) [] [] cpos) (tBM0 X.K T r to):=by
 intro pins s σ H Q I h;refine wpAny_Call_method0_late hbase hline (thn (ho pins s σ H _ I h) fun v s1 hx__=>?_);obtain ⟨x,H1,I1,r1,ty,q1⟩:=hx__;obtain ⟨h1,h2⟩:=znP I1 r1 ty;exact ⟨T,id,pa,slot,hty,h1,h2,Calls.callWith_builtin rfl (PySem.evalArgs_none (hm pins s1 σ H1 x [] v [] Q I1 r1 .nil q1))⟩
theorem zpG (pa:PlainAttrs T) (slot:Slot T name id) (hty:typeOf (.builtin id)=pure (.type "method_descriptor")) (hm:MtR X id r) (ho:PE X o to) (ha:PA X (e::es) t)
  (hbase:attributeBase o name X.env (eval o X.env)=eval o X.env:=by rfl)
  (hfew:((backTo cpos (starEach (e::es) X.env)).all (fun x=>!x.1)&&(backToKw cpos (keywordEach [] X.env)).all (fun x=>x.1.isSome)
   && decide ((e::es).length+([]:List Keyword).length+(if ([]:List Keyword).isEmpty then 0 else 1) < 30))=true:=by rfl)
  (hline:(apos.endLine==cpos.line)=true:=by rfl) (hs:starEach (e::es) X.env=(false,eval e X.env)::starEach es X.env:=by rfl) (hplain:(backTo cpos (starEach es X.env)).any (·.1)=false:=by rfl) :
  PE X (.Call (.Attribute o name apos) (e::es) [] cpos) (tBM X.K T r to t):=by
 intro pins s σ H Q I h;refine wpAny_Call_method_late hbase hfew hline rfl (thn (ho pins s σ H _ I h) fun v s1 hx__=>?_);obtain ⟨x,H1,I1,r1,ty,q1⟩:=hx__;obtain ⟨h1,h2⟩:=znP I1 r1 ty;refine ⟨T,id,pa,slot,hty,h1,h2, ?_⟩;have hA:=ha cpos pins s1 σ H1 _ I1 q1;rw[hs] at hA ⊢;refine Calls.callWith_builtin (by show (false || (backTo cpos (starEach es X.env)).any (·.1))=false;rw[hplain]<;>rfl) (Calls.evalArgs_plain ?_);exact thn hA fun us s2 ⟨vs,H2,I2,r2,q2⟩=>hm pins s2 σ H2 x vs v us Q I2 r1 r2 q2
end
def MtM (X:Cx) (id:String) (r:V->List V->Hp->VK->Prop):Prop:=
 ∀(pins:List (Addr×Obj)) (s:Shared) (σ:St) (H:Hp) (x:V) (xs:List V) (v:Value) (us:List Value) (Q:VK),Inv X pins σ H s->RelV x v->Vals xs us->r x xs H Q->
  wpAny (model X.prog X.w) X.A (call (.builtin id) (v::us)) (EP X pins σ Q) X.xe s
theorem Vals.one {x:V} {us:List Value} (h:Vals [x] us):∃u,us=[u]/\RelV x u:=by
 cases h with
 | cons r t=>cases t;exact ⟨_,rfl,r⟩
theorem Vals.eraseIdx:∀{xs:List V} {us:List Value} (i:Nat),Vals xs us->Vals (xs.eraseIdx i) (us.eraseIdx i)
 | _,_,_,.nil=>.nil
 | _,_,0,.cons _ t=>t
 | _,_,i+1,.cons r t=>.cons r (Vals.eraseIdx i t)
theorem Vals.reverse {xs:List V} {us:List Value} (h:Vals xs us):Vals xs.reverse us.reverse:=by
 induction h with
 | nil=>exact .nil
 | cons r t ih=>rw[List.reverse_cons,List.reverse_cons];exact Vals.append ih (.cons r .nil)
theorem Vals.rep {xs:List V} {us:List Value} (h:Vals xs us):∀k:Nat,Vals (List.replicate k xs).flatten (List.replicate k us).flatten
 | 0=>.nil
 | k+1=>by
  rw[List.replicate_succ,List.replicate_succ,List.flatten_cons,List.flatten_cons];exact Vals.append h (Vals.rep h k)
theorem zh6 {α:Type}:∀(l:List α) (i:Nat),(l.eraseIdx i).length<=l.length
 | [],_=>Nat.le_refl _
 | _::_,0=>Nat.le_succ _
 | _::r,i+1=>Nat.succ_le_succ (zh6 r i)
theorem zhG (its:List Value):∀(k:Nat) (acc:List Value),
  List.foldl (fun x1 x2=>x1++x2) acc.toArray (List.replicate k its.toArray)=(acc++(List.replicate k its).flatten).toArray
 | 0,acc=>by simp
 | k+1,acc=>by
  have e:acc.toArray++its.toArray=(acc++its).toArray:=by simp
  have e2:(acc++its)++(List.replicate k its).flatten=acc++(List.replicate (k+1) its).flatten:=by
   rw[List.replicate_succ,List.flatten_cons,List.append_assoc]
  rw[<-e2,<-zhG its k (acc++its),<-e,List.replicate_succ,List.foldl_cons]
section
variable {X:Cx} {pins:List (Addr×Obj)} {σ:St} {H:Hp} {s:Shared} {l b:Addr} {xs ys zs:List V}
theorem Inv.lset {its its':List Value} {n:Nat} {f:Array Value->Array Value} {t':Nat} (I:Inv X pins σ H s) (hH:H l=some (.lst xs))
  (e:s.heap.get? l=some { cls:=.type "list",data:=.seq its.toArray n }) (hf:f its.toArray=its'.toArray) (hv:Vals ys its') (hz:ys.length<=sizeLine) :
  Inv X pins σ (upd H l (.lst ys)) { s with heap:=s.heap.update l (Obj.mapSeq f),toks:=t' }:=by
 have q:=PySem.IsL.update e f;rw[hf] at q;refine I.write (x:=l) (e:=l) (by rw[hH];exact trivial) (.inl rfl) (fun b' u hb hu=>(Heap.get?_update_other s.heap (Obj.mapSeq f) (Ne.symm hb)).trans hu) ⟨_,q⟩ ?_;exact ⟨hz,its',_,hv,q⟩
theorem Inv.lnew {its:List Value} {t':Nat} (I:Inv X pins σ H s) (hv:Vals ys its) (hz:ys.length<=sizeLine) :
  Inv X pins σ (upd H s.heap.objs.size (.lst ys)) { s with heap:=s.heap.push { cls:=.type "list",data:=.seq its.toArray },toks:=t' }:=
 I.laid (fun _ _ q=>Heap.get?_push_of_some _ q) (Nat.le_refl _) ⟨hz,its,0,hv,Heap.get?_push_size _ rfl⟩
theorem Inv.fresh (I:Inv X pins σ H s):H s.heap.objs.size=none:=I.hok.fresh (Nat.le_refl _)
theorem Inv.lstM (I:Inv X pins σ H s) (hH:H l=some (.lst xs)):xs.length<=sizeLine/\∃(its:List Value) (n:Nat),Vals xs its/\xs.length=its.length/\s.heap.get? l=some { cls:=.type "list",data:=.seq its.toArray n }:=by
 obtain ⟨z,its,n,r,e⟩:=I.hok l _ hH;exact ⟨z,its,n,r,r.length,e⟩
theorem zmm {n:Nat} (h:n<=sizeLine):Builtin.List.listTooLong n=false:=by
 unfold Builtin.List.listTooLong;exact decide_eq_false ∅
end
section
variable {X:Cx}
def ziM:V->List V->Hp->VK->Prop:=fun x vs H Q=>∃l xs y,x=.ref l/\vs=[y]/\H l=some (.lst xs)/\xs.length < sizeLine/\Q .non (upd H l (.lst (xs++[y])))
theorem zhF:MtM X "list.append" ziM:=by
 intro pins s σ H x vs v us Q I rx rv h;obtain ⟨l,xs,y,rfl,rfl,hH,hz,q⟩:=h;cases rx;obtain ⟨u,rfl,ru⟩:=rv.one;obtain ⟨z,its,n,r,hl,e⟩:=I.lstM hH;refine call_meets F.slot_list_append ⟨_,e,rfl⟩ F.entry_list_append (F.args_list_append_2 _ _) (PySem.list_append l its.toArray n u (by rw[List.size_toArray];omega)) ⟨e, ?_⟩;refine ⟨.non,_,I.lset (its':=its++[u]) hH e (by simp) (r.append (.cons ru .nil)) ?_,rfl,q⟩;rw[List.length_append,List.length_singleton];omega
def zl2:V->List V->Hp->VK->Prop:=fun x vs H Q=>∃l xs i k y,x=.ref l/\vs=[.int i]/\H l=some (.lst xs)/\-(2 ^ 63)<=i/\i < 2 ^ 63/\seqIndex? i xs.length=some k/\xs[k]? = some y/\Q y (upd H l (.lst (xs.eraseIdx k)))
theorem znf:MtM X "list.pop" zl2:=by
 intro pins s σ H x vs v us Q I rx rv h;obtain ⟨l,xs,i,k,y,rfl,rfl,hH,h1,h2,hk,hy,q⟩:=h;cases rx;obtain ⟨u,rfl,ru⟩:=rv.one;obtain ⟨t,rfl⟩:=ru;obtain ⟨z,its,n,r,hl,e⟩:=I.lstM hH;obtain ⟨w,hw,rw'⟩:=r.get hy;refine call_meets F.slot_list_pop ⟨_,e,rfl⟩ F.entry_list_pop (F.args_list_pop_2 _ _)
  (MeetsSeq.list_pop_at l its.toArray n i t k w (fitsIndex_both h1 h2) (by rw[List.size_toArray,<-hl];exact hk) (by rw[<-Array.getElem?_toList];exact hw) (by rw[List.size_toArray];omega)) ⟨e, ?_⟩
 refine ⟨y,_,I.lset (its':=its.eraseIdx k) hH e ?_ (r.eraseIdx k) ?_,rw',q⟩
 .show its.toArray.eraseIdxIfInBounds k=(its.eraseIdx k).toArray
  rw[List.eraseIdxIfInBounds_toArray]
 .have:=zh6 xs k
  omega
def rCat:R2:=fun x y H Q=>∃l b xs zs,x=.ref l/\y=.ref b/\H l=some (.lst xs)/\H b=some (.lst zs)/\xs.length+zs.length<=sizeLine/\∀p,H p=none->Q (.ref p) (upd H p (.lst (xs++zs)))
theorem zq2:OpR X (binaryOp .Add) rCat:=by
 intro pins s σ H x y v u Q I rx ry h;obtain ⟨l,b,xs,zs,rfl,rfl,hH,hB,hz,q⟩:=h;cases rx;cases ry;obtain ⟨z,its,n,r,hl,e⟩:=I.lstM hH;obtain ⟨z2,its2,n2,r2,hl2,e2⟩:=I.lstM hB;refine PySem.P.add_list e e2 ?_ (by rw[List.size_toArray,List.size_toArray];omega);have ea:its.toArray++its2.toArray=(its++its2).toArray:=by simp
 rw[ea];exact ⟨.ref _,_,I.lnew (t':=s.toks) (r.append r2) (by rw[List.length_append];omega),rfl,q _ I.fresh⟩
def rRep:R2:=fun x y H Q=>∃l k xs,x=.ref l/\y=.int k/\H l=some (.lst xs)/\-(2 ^ 63)<=k/\k < 2 ^ 63/\xs.length * k.toNat<=sizeLine/\
 ∀p,H p=none->Q (.ref p) (upd H p (.lst (List.replicate k.toNat xs).flatten))
theorem zog {α:Type} (xs:List α) (k:Nat):(List.replicate k xs).flatten.length=k * xs.length:=by
 induction k with
 | zero=>simp
 | succ k ih=>rw[List.replicate_succ,List.flatten_cons,List.length_append,ih,Nat.succ_mul,Nat.add_comm]
theorem zrF:OpR X (binaryOp .Mult) rRep:=by
 intro pins s σ H x y v u Q I rx ry h;obtain ⟨l,k,xs,rfl,rfl,hH,h1,h2,hz,q⟩:=h;cases rx;obtain ⟨t,rfl⟩:=ry;obtain ⟨z,its,n,r,hl,e⟩:=I.lstM hH;have hlen:its.toArray.size * k.toNat<=sizeLine:=by rw[List.size_toArray,<-hl];exact hz
 have hcap:¬its.toArray.size * k.toNat > (2 ^ 63 - 1) / 8:=by
  have:(sizeLine:Nat)<=(2 ^ 63 - 1) / 8:=by decide
  omega
 have hfit:¬(!Builtin.List.listFitsIndex k)=true:=by
  rw[fitsIndex_both h1 h2];exact Bool.false_ne_true
 have hlong:¬Builtin.List.listTooLong (its.toArray.size * k.toNat)=true:=by
  rw[zmm hlen];exact Bool.false_ne_true
 have hnew:List.foldl (fun x1 x2=>x1++x2) #[] (List.replicate (if its.toArray.isEmpty=true then 0 else k.toNat) its.toArray)=(List.replicate k.toNat its).flatten.toArray:=by
  have f0:∀m:Nat,List.foldl (fun x1 x2=>x1++x2) #[] (List.replicate m its.toArray)=(List.replicate m its).flatten.toArray:=fun m=>by
   have:=zhG its m []
   rw[List.nil_append] at this;exact this
  rw[f0]
  cases its with
  | nil=>simp
  | cons a r'=>rw[if_neg (by simp)]
 refine wpAny_binaryOp_repeat_ref (T:="list") (U:="int") (by decide) ⟨_,e,rfl⟩ (fun s'=>typeIs_int s' k t) noFill_list_mul F.fills_int_mul F.slot_int_rmul repeat_list F.slot_int_index.lookup
  (call_meets F.slot_int_rmul (typeIs_int s k t) F.entry_int_rmul (F.args_int_rmul_2 _ _) (int___rmul___int_list k t l its.toArray n)
   ⟨e,rfl,⟨_,e,rfl⟩,call_meets F.slot_list_mul ⟨_,e,rfl⟩ F.entry_list_mul (F.args_list_mul_2 _ _) (AutoListH.list___mul___list_int_3 l its.toArray n k t hfit hcap hlong) ⟨e, ?_⟩⟩)
 rw[hnew];exact ⟨.ref _,_,I.lnew (t':=s.toks) (r.rep k.toNat) (by rw[zog,Nat.mul_comm];exact hz),rfl,q _ I.fresh⟩
end
section
variable {prog:Program} {w:World} {A:Around} {E:Value->Shared->Prop} {s:Shared}
end
section
variable {X:Cx}
end
end L2
namespace Att
open PySem PySem.W PySem.Calls PyProof.Rows
theorem zfU {P:Params} {h:Heap}:∀(ns:List Int) (vs:List Value),WellAll P h vs (ns.map WData.int)->IntsAre vs ns:=by
 intro ns
 induction ns with
 | nil=>
  intro vs w;rw[List.map_nil] at w;cases w;exact .nil
 | cons n ns ih=>
  intro vs w;rw[List.map_cons] at w
  cases w with
  | cons a b=>
   cases a;exact .cons _ _ (ih _ b)
theorem zlk {l:OpenLaw} {n:Nat} (hn:l.most=some n) {P:Params} {h:Heap} {args:List WData} {vals:List Value}
  (hpre:l.row.toRowW.claim.pre args=true) (hwl:WellAll P h vals args) :
  ∃a vs ns,vals=[Value.ref a]/\args=[WData.list (ns.map WData.int)]/\h.get? a=some { cls:=.type "list",data:=.seq vs.toArray }/\IntsAre vs ns/\ns.length<=n:=by
 have hsh:WShape.hasAll [] args [.list .int]=true:=(pre_splitW hpre).1;have hc:l.pre.holds [] { args:=args }=true:=(pre_splitW hpre).2;obtain ⟨d,r,rfl,h1,h2⟩:=hasAllW_cons hsh;obtain rfl:=hasAllW_nil h2;obtain ⟨xs,rfl,h3⟩:=hasW_list h1;obtain ⟨ns,rfl⟩:=items_int h3;have hlen:ns.length<=n:=by
  unfold OpenLaw.pre at hc;have h4:(WTm.not (.lt (.lit (.int (n:Int))) (.len (.arg 0)))).holds [] { args:=[.list (ns.map .int)] }=true:=by
   have h4:=(holds_andW hc).1;rw[hn] at h4;exact h4
  have h5:=condW_of h4 (w_not (w_lt w_lit (w_len_list (w_arg rfl))));rw[List.length_map] at h5;refine Nat.le_of_not_lt fun q=>?_
  have q':(n:Int) < ((ns.length:Nat):Int):=by omega
  first
   | (rw[decide_eq_true q'] at h5;exact absurd h5 (by decide))
   | (simp at h5;omega)
 cases hwl with
 | cons w1 w2=>
  cases w2
  cases w1 with
  | list ho hall=>exact ⟨_,_,ns,rfl,rfl,ho,zfU ns _ hall,hlen⟩
theorem zkX (l:OpenLaw) (args:List WData):l.row.toRowW.claim.post args (.bool true) args=true:=
 postW_of (r:=l.row.toRowW) (X:=(true==true))
  (show WShape.has [] (.bool true) .bool=true by first | rfl | decide | simp[WShape.has,WShape.arms,WShape.armsAll])
  (show (WTm.eq .res (.lit (.bool true))).value [] { args:=args,res:=some (.bool true),after:=args }=some (.bool (true==true)) from w_eq_bool (w_res rfl) w_lit) rfl
theorem ziD {l:OpenLaw} {n:Nat} {q:Program} {loose:List Str} {XP:(Str->Option Value)->Heap->Prop} {YP:World->Heap->Prop} {d:DefRec}
  (hn:l.most=some n) (hdf:d.params.defaults=[])
  (call:∀(w:World) (s₀ s₁:Shared) (mg mb:Str->Option Value) (fa:Addr) (o:Obj) (pm cd doc:Value) (a:Addr) (vs:List Value) (ns:List Int),
   Ground q loose [] XP w s₀ mg mb s₁.heap->YP w s₁.heap->
   s₁.heap.get? fa=some o->o.data=.func (docDef d.name d.params d.body d.scope pm cd doc)->s₁.heap.CodeRec cd d.name->mg d.name=some (.ref fa)->
   s₁.heap.get? a=some { cls:=.type "list",data:=.seq vs.toArray }->IntsAre vs ns->ns.length<=n->s₁.gens=#[]->
   codeAny (model l.prog w) callerA (.call (.ref fa) ⟨[.ref a],[]⟩) (fun r s'=>r=.ok (.ret (.bool true))/\OldK s₁.heap s'.heap/\s'.os=s₁.os/\AllBare s'.gens) s₁) :
  WalkO q loose XP YP l.row.toRowW d [] (fun f vs=>PySem.call f vs):=by
 intro w s₀ s₁ mg mb G Y fa o pm cd doc dV kV ho hd hcd hD hmg hg args vals as hpre hlay hrd hwl hlo;obtain rfl:dV=.none:=Dflts.none hD hdf;obtain rfl:kV=.none:=Dflts.noKw hD;obtain ⟨a,vs,ns,rfl,rfl,hobj,hints,hlen⟩:=zlk hn hpre hwl;refine enter_call (codeAny_mono (call w s₀ s₁ mg mb fa o pm cd doc a vs ns G Y ho (fd_plain hd) hcd hmg hobj hints hlen hg) fun r s' hq=>?_);obtain ⟨rfl,h2,h3,h4⟩:=hq;exact ⟨.inl ⟨.bool true,.bool true,[],rfl,fun _=>rfl,.bool true,zkX l _,fun _=>⟨List.Pairwise.nil,fun _ hm=>(nomatch hm)⟩⟩,h2,h3,h4⟩
section
variable {prog:Program} {w:World} {A:Around} {E:Value->Shared->Prop} {s:Shared} {K:Frag}
end
end Att
namespace L2
open PySem PySem.Spec PyProof.Rows
theorem zf7:∀{vs:List Value} {ns:List Int},IntsAre vs ns->Vals (ns.map V.int) vs
 | _,_,.nil=>.nil
 | _,_,.cons n t h=>.cons ⟨t,rfl⟩ (zf7 h)
def Only (H:Hp):Prop:=∀b,H b=none\/∃o xs,H b=some (.frz o (.lst xs))
theorem zm0 {P:Program} {w:World} {K:PySem.W.Frag} {mg mb:Str->Option Value} {CX:CXT} {k:Nat} {fa a:Addr} {fd:FuncData} {x:Str} {sp:Sp} {s₁:Shared} {vs:List Value} {ns:List Int}
  (KX:K.In s₁.heap) (hns:s₁.heap.Ns mainGlobals mg) (hb:s₁.heap.Ns builtinsNs mb) (hbb:∀x:Str,x≠"__name__"->mb x=bootBuiltins x) (hlim:s₁.heap.NoLimit) (hg:s₁.gens=#[])
  (ha:s₁.heap.get? a=some { cls:=.type "list",data:=.seq vs.toArray }) (hi:IntsAre vs ns) (hl:ns.length<=sizeLine) (hr:Room k callerA)
  (F:∀base:Heap,K.In base->base.Ns mainGlobals mg->FnOk P w K mg base CX k fa fd [x] sp) (hbind:∀(s:Shared) (u:Value),BindsTo s fd ⟨[u],[]⟩ [(x,u)])
  (hsp:∀H:Hp,Only H->SqL K H a (ns.map V.int)->sp [.ref a] H (fun v _=>v=.bl true) fun _ _ _=>False)
  (hCX:∀H e s',CX [] H s₁ (fun _ _ _=>False) e s'->False) :
  codeAny (model P w) callerA (.call (.ref fa) ⟨[.ref a],[]⟩) (fun r s'=>r=.ok (.ret (.bool true))/\OldK s₁.heap s'.heap/\s'.os=s₁.os/\AllBare s'.gens) s₁:=by
 have rv:=zf7 hi;have lenV:=hi.length
 -- from an abstract heap in which nothing but the script may be tracked
 have core:∀H:Hp,Only H->SqL K H a (ns.map V.int)->HOk P w H s₁.heap->(∀b,H b≠none->b=a)->(H a≠none->K.lookup a=none)->
   codeAny (model P w) callerA (.call (.ref fa) ⟨[.ref a],[]⟩) (fun r s'=>r=.ok (.ret (.bool true))/\OldK s₁.heap s'.heap/\s'.os=s₁.os/\AllBare s'.gens) s₁:=by
  intro H hO hS hok hA hK;have base_of:∀{b:Addr} {o:Obj},s₁.heap.get? b=some o->H b=none->(hidT s₁.heap H).get? b=some o:=fun e n=>znb e n
  have noA:∀{b:Addr} {o:Obj} {es:Array DictEntry} {ep:Nat},s₁.heap.get? b=some o->o.data=.dict es ep->H b=none:=fun {b o es ep} e d=>by
   cases q:H b with
   | none=>rfl
   | some u=>
    have e':b=a:=hA b (by rw[q];simp);subst e';rw[ha] at e;cases e;have d':Data.seq vs.toArray _=Data.dict es ep:=d
    cases d'
  have nsK:∀{b:Addr} {m:Str->Option Value},s₁.heap.Ns b m->(hidT s₁.heap H).Ns b m:=fun {b m} ⟨o,es,ep,e,d,r⟩=>⟨o,es,ep,base_of e (noA e d),d,r⟩
  have hKb:K.In (hidT s₁.heap H):=fun b o e=>base_of (KX b o e) (by
   cases q:H b with
   | none=>rfl
   | some u=>
    have e':b=a:=hA b (by rw[q];simp);subst e';rw[hK (by rw[q];simp)] at e;cases e)
  have hM:Mod K mg (hidT s₁.heap H):=⟨hKb,nsK hns,⟨mb,nsK hb,hbb⟩,let ⟨mc,h1,h2⟩:=hlim;⟨mc,nsK h1,h2⟩⟩;have e0:Env0 P w K mg (hidT s₁.heap H) callerA [] s₁ H:=⟨rfl,hM,fun b o e=>zpI e,Nat.le_of_eq (zkt _ _),trivial,fun b hb=>absurd (show b∈([]:List Addr) from hb) (by simp),hok,.of_eq hg⟩;refine codeAny_mono ((F _ hKb (nsK hns)).run callerA [] s₁ H ⟨[.ref a],[]⟩ [.ref a] [.ref a] _ _ hr e0 (hbind s₁ (.ref a)) (.cons rfl .nil) (hsp H hO hS)) fun r s' h=>?_
  cases r with
  | error e=>exact (hCX H e s' h).elim
  | ok fl=>
   cases fl with
   | next=>exact False.elim h
   | brk=>exact False.elim h
   | cont=>exact False.elim h
   | ret u=>
    obtain ⟨v,H',os,bare,un,hok',r',q⟩:=h;have q':v=.bl true:=q;subst q';obtain rfl:u=Value.bool true:=r';refine ⟨rfl,OldK.of_keep fun b o e=>?_,os,bare⟩
    cases q:H b with
    | none=>exact un.keep b o e q (by intro z;exact absurd (show b∈([]:List Addr) from z) (by simp)) (by simp)
    | some u=>
     rcases hO b with z | ⟨ob,xs,z⟩
     .rw[q] at z;cases z
     .have z2:=un.frzs b ob _ z;obtain ⟨e1,_⟩:=hok b _ z;obtain ⟨e2,_⟩:=hok' b _ z2;rw[e] at e1;cases e1;exact e2
 cases hk:K.lookup a with
 | some o=>
  -- the script is one of the module's own objects
  have e:=KX a o hk;rw[ha] at e;cases e;refine core (fun _=>none) (fun _=>.inl rfl) (.inr ⟨_,vs.toArray,_,hk,rfl,rfl,rfl,by rw[List.size_toArray,lenV];exact hl,by simpa using rv⟩) (fun b u z=>by have z':(none:Option HO)=some u:=z;cases z') (fun b z=>absurd rfl z) fun z=>absurd rfl z
 | none=>
  refine core (fun b=>if b=a then some (.frz { cls:=.type "list",data:=.seq vs.toArray } (.lst (ns.map V.int))) else none) (fun b=>?_) (.inl (.inr ⟨{ cls:=.type "list",data:=.seq vs.toArray },if_pos rfl⟩)) (fun b u z=>?_) (fun b z=>?_) fun _=>hk
  .by_cases hb:b=a
   .exact .inr ⟨_,_,if_pos hb⟩
   .exact .inl (if_neg hb)
  .by_cases hb:b=a
   .have z':=(if_pos hb).symm.trans z
    cases z'
    subst hb;exact ⟨ha,by rw[List.length_map];exact hl,vs,_,rv,ha⟩
   .have z':=(if_neg hb).symm.trans z
    cases z'
  .by_cases hb:b=a
   .exact hb
   .exact absurd (if_neg hb) z
def zdu (s:Stmt):Arguments:=match s with
 | .FunctionDef _ a _ _ _ _ _ _ _ _=>a
 | _=>{ posonlyargs:=[],args:=[],vararg:=none,kwonlyargs:=[],kw_defaults:=[],kwarg:=none,defaults:=[] }
def zch (s:Stmt):List Stmt:=match s with
 | .FunctionDef _ _ b _ _ _ _ _ _ _=>b
 | _=>[]
def zaf (s:Stmt):Scope:=match s with
 | .FunctionDef _ _ _ _ _ _ sc _ _ _=>sc
 | _=>{ kind:=.function,names:=[],isGenerator:=false,isCoroutine:=false }
abbrev CX0:CXT:=fun _ _ _ _ _ _=>False
structure Fun (K:PySem.W.Frag) (x qual:Str) (st:Stmt) (f:Addr) (fd:FuncData):Prop where
 ex:∃(oc:Value) (od:Option Addr) (kV doc pm:Value) (an:Option Addr) (cdv ct:Value) (osl:Array (Option Value)),
  fd=PySem.W.fnOf x qual (zdu st) (zch st) (zaf st) .none kV doc pm an cdv ct/\K.lookup f=some ⟨oc,od,.func fd,osl⟩/\PySem.W.codeIn K cdv qual=true
 kp:PySem.W.keepIn K (.ref f)=true
section
variable {P:Program} {w:World} {K:PySem.W.Frag} {mg:Str->Option Value} {base:Heap}
theorem Fun.ok {x qual:Str} {st:Stmt} {f:Addr} {fd:FuncData} {N ps:List Str} {k:Nat} {sp:Sp} (F:Fun K x qual st f fd) (S:zak N ps (zaf st)) (len:∀vs H Q E,sp vs H Q E->vs.length=ps.length)
  (hbody:∀(cdv:Value) (A:Around) (outer:List Env) (s:Shared) (H:Hp) (vs:List V) (Q:VK) (E:XK),Room k (A.deeper (envOfC qual (zaf st) s.heap.objs.size f cdv))->sp vs H Q E->
   ∃t,PSs (cxOf CX0 P w K mg base N qual (zaf st) f cdv A outer s H E).nox (zch st) t/\t { nx:=fun _ H'=>Q .non H',rt:=Q } (start N vs) H):FnOk P w K mg base CX0 (k+1) f fd ps sp:=by
 obtain ⟨oc,od,kV,doc,pm,an,cdv,ct,osl,rfl,lk,hcd⟩:=F.ex;refine zsa lk hcd S len fun A outer s H vs Q E hr hsp=>?_
 obtain ⟨t,h,q⟩:=hbody cdv A outer s H vs Q E hr hsp;exact ⟨t,h.nox,q⟩
theorem Fun.binds {x qual:Str} {st:Stmt} {f:Addr} {fd:FuncData} {ps:List Str} (F:Fun K x qual st f fd)
  (h:∀(kV doc pm:Value) (an:Option Addr) (cdv ct:Value) (us:List Value),us.length=ps.length->bindArgs (PySem.W.fnOf x qual (zdu st) (zch st) (zaf st) .none kV doc pm an cdv ct) ⟨us,[]⟩=pure (ps.zip us)):Binds K fd ps []:=by
 obtain ⟨oc,od,kV,doc,pm,an,cdv,ct,osl,rfl,lk,hcd⟩:=F.ex;exact .all (h kV doc pm an cdv ct)
end
section
variable {X:Cx}
theorem pv (i:Nat) {x:Str} {pos:Pos} (hN:X.N[i]? = some x:=by rfl) (hv:Vis X.env.scope x:=by first | exact Or.inl rfl | exact Or.inr (Or.inl rfl) | exact Or.inr (Or.inr rfl)) (hd:(x==("__debug__":Str))=false:=by decide)
  (hcd:(x==("__classdict__":Str))=false:=by decide):PE X (.Name x pos) (tVar i):=zso hN hv hd hcd
end
def Same (H H':Hp):Prop:=∀b o,H b=some o->H' b=some o
theorem Same.refl (H:Hp):Same H H:=fun _ _ h=>h
end L2
set_option maxHeartbeats 4000000
namespace L2
open PySem PySem.Spec PyProof.Rows
def zd1 (cells:List (Str×Addr)):List (Str×NameKind)->List (Str×Addr)->List (Str×Addr)
 | [],cs=>cs
 | (n,k)::r,cs=>zd1 cells r (if (k==NameKind.free)=true then (match cells.lookup n with | some a=>(n,a)::cs | none=>cs) else cs)
theorem zh2 (env:Env):∀(l:List (Str×NameKind)) (cs:List (Str×Addr)),(∀y∈l,y.2=.free->∃c,env.cells.lookup y.1=some c)->
  (forIn l cs fun x r=>match x with | (name,kind)=>if (kind==NameKind.free)=true then do let a <-cellOf env name;pure (ForInStep.yield ((name,a)::r)) else pure (ForInStep.yield r))=(pure (zd1 env.cells l cs):Sem (List (Str×Addr)))
 | [],cs,_=>rfl
 | (n,k)::l,cs,h=>by
  have ih:=fun cs=>zh2 env l cs fun y hy=>h y (List.mem_cons_of_mem _ hy)
  rw[List.forIn_cons];unfold zd1
  by_cases hk:k=.free
  .subst hk;obtain ⟨c,hc⟩:=h (n,.free) List.mem_cons_self rfl;have e:cellOf env n=pure c:=by unfold cellOf;rw[hc]
   simp only[beq_self_eq_true,if_true,e,hc,pure_bind];exact ih _
  .have hb:(k==NameKind.free)=false:=by simpa using hk
   simp only[hb,Bool.false_eq_true,if_false,pure_bind];exact ih _
theorem zob {scope:Scope} {env:Env} (h:∀y∈scope.names,y.2=.free->∃c,env.cells.lookup y.1=some c):closureFor scope env=pure (zd1 env.cells scope.names []):=by
 unfold closureFor;simp only[bind_pure];exact zh2 env scope.names [] h
theorem ziP (cells:List (Str×Addr)):∀(l:List (Str×NameKind)) (cs:List (Str×Addr)),(∀x c,cs.lookup x=some c->cells.lookup x=some c)->∀x c,(zd1 cells l cs).lookup x=some c->cells.lookup x=some c
 | [],cs,h,x,c,e=>h x c e
 | (n,k)::l,cs,h,x,c,e=>by
  unfold zd1 at e;refine ziP cells l _ ?_ x c e;intro y d q;split at q
  .cases hc:cells.lookup n with
   | none=>rw[hc] at q;exact h y d q
   | some a=>
    rw[hc] at q;simp only[List.lookup_cons] at q
    cases hy:y==n with
    | true=>
     rw[hy] at q
     have:y=n:=by simpa using hy
     subst this;rw[hc];exact q
    | false=>rw[hy] at q;exact h y d q
  .exact h y d q
theorem zjK (cells:List (Str×Addr)):∀(l:List (Str×NameKind)) (cs:List (Str×Addr)) (x:Str),(∃c,cs.lookup x=some c)->∃c,(zd1 cells l cs).lookup x=some c
 | [],cs,x,h=>h
 | (n,k)::l,cs,x,h=>by
  unfold zd1;refine zjK cells l _ x ?_;split
  .split
   .simp only[List.lookup_cons];split
    .exact ⟨_,rfl⟩
    .exact h
   .exact h
  .exact h
theorem zil (cells:List (Str×Addr)):∀(l:List (Str×NameKind)) (cs:List (Str×Addr)) (x:Str),(x,NameKind.free)∈l->(∃c,cells.lookup x=some c)->∃c,(zd1 cells l cs).lookup x=some c
 | [],cs,x,h,_=>by simp at h
 | (n,k)::l,cs,x,h,hc=>by
  unfold zd1;rcases List.mem_cons.mp h with e | h
  .cases e;obtain ⟨c,hc⟩:=hc;simp only[beq_self_eq_true,if_true,hc];exact zjK cells l _ _ ⟨c,by simp[List.lookup_cons]⟩
  .exact zil cells l _ x h hc
theorem zi8:∀(names:List (Str×NameKind)) (n:Nat) (acc:List (Str×Addr)) (x:Str) (c:Addr),(cellsFrom n names acc).lookup x=some c->acc.lookup x=some c\/n<=c
 | [],_,_,_,_,h=>.inl h
 | (y,k)::r,n,acc,x,c,h=>by
  unfold cellsFrom at h;split at h
  .rcases zi8 r _ _ x c h with q | q
   .rw[List.lookup_cons] at q;split at q
    .cases q;exact .inr (Nat.le_refl _)
    .exact .inl q
   .exact .inr (Nat.le_of_succ_le q)
  .exact zi8 r _ _ x c h
theorem zo5 {m:Nat}:∀(names:List (Str×NameKind)) (n:Nat) (acc:List (Str×Addr)) (x:Str) (c:Addr),m<=n->((∀d,acc.lookup x=some d->m<=d)\/names.lookup x=some .cell)->(cellsFrom n names acc).lookup x=some c->m<=c
 | [],_,_,_,_,_,q,h=>q.elim (fun q=>q _ h) fun q=>by cases q
 | (y,k)::r,n,acc,x,c,hm,q,h=>by
  unfold cellsFrom at h;rw[List.lookup_cons] at q;split at h
  .refine zo5 r _ _ x c (Nat.le_succ_of_le hm) ?_ h
   cases e:x==y with
   | true=>exact .inl fun d hd=>by rw[List.lookup_cons,e] at hd;cases hd;exact hm
   | false=>rw[e] at q;exact q.imp (fun q d hd=>by rw[List.lookup_cons,e] at hd;exact q d hd) id
  .rename_i hk;refine zo5 r _ _ x c hm (q.imp id fun q=>?_) h
   cases e:x==y with
   | true=>rw[e] at q;cases q;exact absurd rfl hk
   | false=>rw[e] at q;exact q
theorem zlW:∀(names:List (Str×NameKind)) (n:Nat) (acc:List (Str×Addr)),(∀x y c,acc.lookup x=some c->acc.lookup y=some c->x=y)->(∀x c,acc.lookup x=some c->c < n)->∀x y c,(cellsFrom n names acc).lookup x=some c->(cellsFrom n names acc).lookup y=some c->x=y
 | [],_,_,hi,_,x,y,c,h,h'=>hi x y c h h'
 | (z,k)::r,n,acc,hi,hl,x,y,c,h,h'=>by
  unfold cellsFrom at h h';split at h
  .rename_i hk;rw[if_pos hk] at h';refine zlW r _ _ (fun x y c=>?_) (fun x c e=>?_) x y c h h'
   .rw[List.lookup_cons,List.lookup_cons]
    cases ex:x==z<;>cases ey:y==z
    .exact hi x y c
    .intro e e';cases e';exact absurd (hl _ _ e) (Nat.lt_irrefl _)
    .intro e e';cases e;exact absurd (hl _ _ e') (Nat.lt_irrefl _)
    .exact fun _ _=>(beq_iff_eq.mp ex).trans (beq_iff_eq.mp ey).symm
   .rw[List.lookup_cons] at e;split at e
    .cases e;exact Nat.lt_succ_self _
    .exact Nat.lt_succ_of_lt (hl _ _ e)
  .rename_i hk;rw[if_neg hk] at h';exact zlW r _ _ hi hl x y c h h'
theorem znU:∀(names:List (Str×NameKind)) (n:Nat) (acc:List (Str×Addr)) (x:Str),(x,NameKind.cell)∉names->(cellsFrom n names acc).lookup x=acc.lookup x
 | [],_,_,_,_=>rfl
 | (y,k)::r,n,acc,x,h=>by
  unfold cellsFrom;have hr:=fun acc n=>znU r n acc x fun z=>h (List.mem_cons_of_mem _ z)
  split
  .rename_i hk
   have:k=.cell:=by simpa using hk
   subst this;rw[hr,List.lookup_cons]
   cases e:x==y with
   | true=>exact absurd (by rw[beq_iff_eq.mp e];exact List.mem_cons_self) h
   | false=>rfl
  .exact hr _ _
theorem zo7:∀(names:List (Str×NameKind)) (h:Heap) (acc:List (Str×Addr)) (x:Str) (c:Addr),(cellsFrom h.objs.size names acc).lookup x=some c->acc.lookup x=some c\/(pushCells h names).IsCell c none
 | [],_,_,_,_,e=>.inl e
 | (y,k)::r,h,acc,x,c,e=>by
  unfold cellsFrom at e;unfold pushCells;split at e
  .rename_i hk;rw[if_pos hk];rcases zo7 r (h.push { cls:=.type "cell",data:=.cell none }) ((y,h.objs.size)::acc) x c (by rw[Heap.size_push];exact e) with q | q
   .rw[List.lookup_cons] at q;split at q
    .cases q;exact .inr ⟨_,pushCells_keeps _ _ _ _ (Heap.get?_push_size _ rfl),rfl⟩
    .exact .inl q
   .exact .inr q
  .rename_i hk;rw[if_neg hk];exact zo7 r _ _ x c e
theorem zoS {M:Model} {A:Around} {E:Value->Shared->Prop} {s:Shared} {scope:Scope} {globals:Addr} {closure:List (Str×Addr)} {qual:Str} {func:Option Addr} {code:Value} {outer:Env} {builtins:Addr} {Q:Env->Shared->Prop}
  (hQ:Q (newEnv scope s.heap.objs.size globals (cellsFrom (s.heap.objs.size+1) scope.names closure) qual func code (some outer) builtins) { s with heap:=pushCells (s.heap.push { cls:=.type "dict",data:=.dict #[] }) scope.names }) :
  wpAny M A (newFunctionEnv scope globals closure [] qual func code (some outer) builtins) Q E s:=by
 simp only[newFunctionEnv,Option.isSome_some,if_true];refine wpAny_bind (wpAny_alloc ?_);refine wpAny_bind (wpAny_layCells _ (fun name kind cells=>by cases hkc:kind==NameKind.cell<;>simp[hkc]) _ _ _ _ ?_);rw[show ({ s with heap:=s.heap.push { cls:=.type "dict",data:=.dict #[] } }:Shared).heap.objs.size=s.heap.objs.size+1 from Heap.size_push ..];refine wpAny_bind ?_;rw[List.forIn_nil];exact wpAny_pure (wpAny_pure hQ)
def blk (X:Cx) (N':List Str) (scope:Scope) (s:Shared) (H:Hp) (ex:List Addr):Cx:=
 { X with N:=N',s₀:=s,H₀:=H,env:=compEnvC scope (cellsFrom (s.heap.objs.size+1) scope.names (zd1 X.env.cells scope.names [])) s.heap.objs.size X.env,outer:=X.stack,stack:=X.stack,ex:=ex,fn:=fun x=>decide (scope.names.lookup x=some .cell),pn:=[],xe:=fun _ _=>False }
def pick (σ:St) (js:List (Option Nat)):St:=js.map fun j=>match j with | none=>none | some i=>(σ[i]?).getD none
def zh0 (N:List Str) (sc:Scope) (N':List Str) (scope:Scope) (js:List (Option Nat)):Bool:=
 (N'.length==js.length)&&(N'.zip js).all fun p=>match p.2 with
  | none=>true
  | some i=>decide (N[i]? = some p.1)&&(decide (sc.names.lookup p.1=some .cell) || decide (sc.names.lookup p.1=some .free))&&decide (scope.names.lookup p.1=some .free)
def zeM (sc scope:Scope):Bool:=scope.names.all fun y=>((y.2 != .cell) || decide (scope.names.lookup y.1=some .cell))&&((y.2 != .free) || (decide (sc.names.lookup y.1=some .cell) || decide (sc.names.lookup y.1=some .free)))&&((y.2 != .local) || decide (scope.names.lookup y.1=some .local))
theorem zee {env:Env} {x:Str} {k:NameKind}:∀{names:List (Str×NameKind)},
  (names.map fun (n,k)=>if (k==NameKind.free&&env.scope.kind==.function&&env.kindOf n==some .cell) then (n,NameKind.cell) else (n,k)).lookup x=some k->
  names.lookup x=some k\/(names.lookup x=some .free/\k=.cell)
 | [],h=>by simp at h
 | (n,j)::r,h=>by
  have ih:=@zee env x k r;simp only[List.map_cons] at h
  by_cases hc:(j==NameKind.free&&env.scope.kind==.function&&env.kindOf n==some .cell)=true
  .rw[if_pos hc] at h;have hj:j=.free:=by
    have:=(Bool.and_eq_true _ _).mp ((Bool.and_eq_true _ _).mp hc).1
    simpa using this.1
   subst hj
   cases hx:x==n with
   | true=>
    simp only[List.lookup_cons,hx] at h ⊢;cases h;exact .inr (by simp)
   | false=>
    simp only[List.lookup_cons,hx] at h ⊢;exact ih h
  .rw[if_neg hc] at h
   cases hx:x==n with
   | true=>simp only[List.lookup_cons,hx] at h ⊢;exact .inl h
   | false=>simp only[List.lookup_cons,hx] at h ⊢;exact ih h
theorem zfp {env:Env} {x:Str}:∀{names:List (Str×NameKind)},names.lookup x=some .free->
  (names.map fun (n,k)=>if (k==NameKind.free&&env.scope.kind==.function&&env.kindOf n==some .cell) then (n,NameKind.cell) else (n,k)).lookup x=some .cell\/
  (names.map fun (n,k)=>if (k==NameKind.free&&env.scope.kind==.function&&env.kindOf n==some .cell) then (n,NameKind.cell) else (n,k)).lookup x=some .free
 | [],h=>by simp at h
 | (n,j)::r,h=>by
  have ih:=@zfp env x r;simp only[List.map_cons]
  cases hx:x==n with
  | true=>
   simp only[List.lookup_cons,hx] at h;cases h
   by_cases hc:(NameKind.free==NameKind.free&&env.scope.kind==.function&&env.kindOf n==some .cell)=true
   .rw[if_pos hc];exact .inl (by simp[List.lookup_cons,hx])
   .rw[if_neg hc];exact .inr (by simp[List.lookup_cons,hx])
  | false=>
   simp only[List.lookup_cons,hx] at h
   by_cases hc:(j==NameKind.free&&env.scope.kind==.function&&env.kindOf n==some .cell)=true
   .rw[if_pos hc];simp only[List.lookup_cons,hx];exact ih h
   .rw[if_neg hc];simp only[List.lookup_cons,hx];exact ih h
section
variable {X:Cx} {pins:List (Addr×Obj)} {σ:St} {H H':Hp} {s:Shared}
theorem Inv.adopt {l : Addr} {o : HO} (I : Inv X pins σ H s) (hn : H l = none) (hL : l ≠ X.env.locals) (h1 : l ∈ X.ex \/ X.s₀.heap.objs.size <= l)
    (h2 : ∀ x c, X.env.cells.lookup x = some c -> c ≠ l) (h3 : ∀ p ∈ X.pn ++ pins, p.1 ≠ l) (new : ObjOk X.prog X.w (upd H l o) s.heap l o) : Inv X pins σ (upd H l o) s := by
  have nl : ∀ b u, H b = some u -> b ≠ l := fun b u e z => by rw [z, hn] at e; cases e
  have := I.step (H' := upd H l o) (h' := s.heap) (g' := s.gens) (t' := s.toks) (d' := s.drawn) (ch := [l])
    (fun b hb => by have e : b = l := by simpa using hb
                    subst e; exact ⟨h1, hL, h2, h3⟩)
    (fun b o _ _ _ e _ => e) (fun b o _ _ _ e _ => ⟨o.slots, e⟩) (fun b o hc e n => by rw [zaJ (fun z => hc (by simp [z]))]; exact n) (fun b o _ e => ⟨o, e⟩)
    (fun b xs e => by rw [zaJ (nl b _ e)]; exact e) (fun b o u e => by rw [zaJ (nl b _ e)]; exact e) (fun b ps e => ⟨#[], by rw [zaJ (nl b _ e), e]; simp⟩) (fun m hm => hm)
    (fun b u e => by
      by_cases hb : b = l
      . subst hb; rw [zbx] at e; cases e; exact new
      . rw [zaJ hb] at e
        exact (I.hok b u e).stay (fun c v _ q => q) (fun c q => by rw [zaJ (nl c _ q)]; exact q) fun c xs q => by rw [zaJ (nl c _ q)]; exact q) I.bare
  exact this
end
section
variable {prog:Program} {w:World} {A:Around} {R:Result->Shared->Prop} {s:Shared}
theorem zhr {elt target iter:Expr} {ifs:List Expr} {scope:Scope} {pos:Pos} {it acc:Value} {env:Env} (I:Nat->Shared->Prop)
  (turn:∀n s,I n s->wpAny (model prog w) A (pyNext it) (fun r s₁=>match r with
   | none=>R (.ok .next) s₁
   | some v=>wpAny (model prog w) A (letOwnedTupleGo target it v) (fun _ s₁'=>wpAny (model prog w) A (assign target env v) (fun _ s₂=>
     wpAny (model prog w) A (forIn ifs true fun c r=>if r=true then do let ok <-isTrue c env (eval c env);pure (ForInStep.yield ok) else pure (ForInStep.yield r)) (fun ok s₃=>
      if ok=true then wpAny (model prog w) A (eval elt env) (fun x s₄=>
       wpAny (model prog w) A (call (.builtin "list.append") [acc,x]) (fun _ s₅=>∃m,m < n/\I m s₅) (fun _ _=>False) s₄) (fun _ _=>False) s₃
      else ∃m,m < n/\I m s₃) (fun _ _=>False) s₂) (fun _ _=>False) s₁') (fun _ _=>False) s₁) (fun _ _=>False) s)
  (n:Nat) (h:I n s) :
  codeAny (model prog w) A (.compLoop (.ListComp elt [⟨target,iter,ifs,0⟩] scope pos) 0 it acc env) R s:=by
 refine codeAny_loop rfl I (fun n s hI=>?_) n h
 show wpAny _ A ((compTurn (.ListComp elt [⟨target,iter,ifs,0⟩] scope pos) 0 it acc env).onRaise (fun x=>do noteFrame x env;theTreesLotGoes x)) _ _ s
 refine wpAny_noted ?_;rw[compTurn_list];refine wpAny_bind (wpAny_standAt (wpAny_bind (wpAny_mono (turn n s hI) (fun r s₁ h₁=>?_) fun _ _ h'=>h'.elim)))
 cases r with
 | none=>exact wpAny_pure h₁
 | some v=>
  refine wpAny_bind (wpAny_mono h₁ (fun _ s₁' h₁'=>?_) fun _ _ h'=>h'.elim);refine wpAny_bind (wpAny_mono h₁' (fun _ s₂ h₂=>wpAny_bind (wpAny_mono h₂ (fun ok s₃ h₃=>?_) fun _ _ h'=>h'.elim)) fun _ _ h'=>h'.elim)
  cases ok with
  | false=>exact wpAny_pure ⟨rfl,h₃⟩
  | true=>
   exact wpAny_bind (wpAny_bind (wpAny_mono h₃ (fun x s₄ h₄=>wpAny_bind (wpAny_mono h₄ (fun _ s₅ h₅=>wpAny_pure (wpAny_pure ⟨rfl,h₅⟩)) fun _ _ h'=>h'.elim)) fun _ _ h'=>h'.elim))
end
def PF (X:Cx) (ifs:List Expr) (t:TT):Prop:=
 ∀(pins:List (Addr×Obj)) (s:Shared) (σ:St) (H:Hp) (Q:Bool->Hp->Prop),Inv X pins σ H s->t σ H Q->
  wpAny (model X.prog X.w) X.A (forIn ifs true fun c r=>if r=true then do let ok <-isTrue c X.env (eval c X.env);pure (ForInStep.yield ok) else pure (ForInStep.yield r)) (TP X pins σ Q) X.xe s
def tYes:TT:=fun _ H Q=>Q true H
theorem zqx {X:Cx}:PF X [] tYes:=fun _ _ _ H _ I h=>wpAny_tests_nil ⟨H,I,h⟩
def lcGo (J:It) (js:List (Option Nat)) (g:TG) (tt:TT) (te:TE) (σ:St) (H1:Hp) (Q:VK):Prop:=
 ∃W:Nat->Nat->List V->Hp->Prop,(∃m,W 0 m [] H1)/\∀i m acc H,W i m acc H->
  (J.stop i H/\acc.length<=sizeLine/\∀l,H l=none->Q (.ref l) (upd H l (.lst acc)))\/
  (J.go i H/\acc.length < sizeLine/\∀x H',J.yld i H x H'->g x (pick σ js) H' fun σ2 H2=>tt σ2 H2 fun b H3=>
   if b=true then te σ2 H3 fun v H4=>∃m',m' < m/\W (i+1) m' (acc++[v]) H4 else ∃m',m' < m/\W (i+1) m' acc H3)
def tLC (wi:TI) (js:List (Option Nat)) (g:TG) (tt:TT) (te:TE):TE:=fun σ H Q=>wi σ H fun J H1=>lcGo J js g tt te σ H1 Q
section
variable {X:Cx} {elt tgt iter:Expr} {ifs:List Expr} {scope:Scope} {pos:Pos} {N':List Str} {js:List (Option Nat)} {wi:TI} {g:TG} {tt:TT} {te:TE}
theorem zp3 {pins:List (Addr×Obj)} {σ:St} {H:Hp} {s:Shared} {ex:List Addr} (I:Inv X pins σ H s) (hk:scope.kind=.function) (hf:zeM X.env.scope scope=true)
  (hex:∀b∈ex,(b∈X.ex\/X.s₀.heap.objs.size<=b)/\b≠X.env.locals/\b∉X.fs/\(∀x c,X.env.cells.lookup x=some c->c≠b)/\b < s.heap.objs.size):(blk X N' scope s H ex).Ok:=by
 have hf':∀y∈scope.names,(y.2=.cell->scope.names.lookup y.1=some .cell)/\(y.2=.free->X.env.scope.names.lookup y.1=some .cell\/X.env.scope.names.lookup y.1=some .free):=fun y hy=>by
  have:=List.all_eq_true.mp hf y hy
  simp only[Bool.and_eq_true,Bool.or_eq_true,bne_iff_ne,ne_eq,decide_eq_true_eq] at this;exact ⟨fun e=>this.1.1.resolve_left fun z=>z e,fun e=>this.1.2.resolve_left fun z=>z e⟩
 have sub:=ziP X.env.cells scope.names [] (by simp);have cl:∀x c,(zd1 X.env.cells scope.names []).lookup x=some c->c < s.heap.objs.size:=fun x c e=>by
  obtain ⟨v,q⟩:=I.cell x c (sub x c e);exact q.lt
 refine ⟨I.ok.mod,hk,I.ok.glob,I.ok.blt,Nat.le_refl _,zlW _ _ _ (fun x y c h1 h2=>?_) (fun x c e=>Nat.lt_succ_of_lt (cl x c e)),fun x hx=>?_,fun x c h e=>?_,I.ok.hd,I.ok.frames,.inl rfl,fun b hb=>?_,I.bs,Nat.le_trans I.ok.bsz I.sz,fun b o e hb=>?_,fun b hb hb'=>?_,I.stack,I.stkFree⟩
 .exact I.ok.inj x y c (sub x c h1) (sub y c h2)
 .have hfree:scope.names.lookup x=some .cell\/scope.names.lookup x=some .free:=by
   have hx:((scope.names.map fun (n,k)=>if (k==NameKind.free&&X.env.scope.kind==.function&&X.env.kindOf n==some .cell) then (n,NameKind.cell) else (n,k)).lookup x=some .cell)\/
    ((scope.names.map fun (n,k)=>if (k==NameKind.free&&X.env.scope.kind==.function&&X.env.kindOf n==some .cell) then (n,NameKind.cell) else (n,k)).lookup x=some .free):=hx
   rcases hx with hx | hx
   .exact (zee hx).imp id fun z=>z.1
   .exact (zee hx).elim .inr fun z=>.inr z.1
  refine Option.isSome_iff_exists.mp (PySem.W.cellsFrom_some _ _ _ (hfree.imp id fun hfree=>?_));have hm:=PySem.mem_of_lookup hfree;obtain ⟨c,hc⟩:=I.ok.has x ((hf' _ hm).2 rfl);exact Option.isSome_iff_exists.mpr (zil X.env.cells scope.names [] x hm ⟨c,hc⟩)
 .exact zo5 _ _ _ x c (Nat.le_succ _) (.inr (of_decide_eq_true h)) e
 .obtain ⟨h1,h2,h3,h4,h5⟩:=hex b hb;exact ⟨Nat.ne_of_lt h5,fun x c e=>(zi8 _ _ _ x c e).elim (fun e=>h4 x c (sub x c e)) fun e=>Nat.ne_of_gt (Nat.lt_of_lt_of_le (Nat.lt_succ_of_lt h5) e)⟩
 .obtain ⟨h1,h2,h3,h4,h5⟩:=hex b hb;rcases h1 with z | z
  .exact I.ok.noex b o e z
  .exact absurd (Nat.lt_of_lt_of_le (Heap.lt_size e) (Nat.le_trans I.ok.bsz z)) (Nat.lt_irrefl _)
 .obtain ⟨h1,h2,h3,h4,h5⟩:=hex b hb;rcases List.mem_cons.mp (I.stkSub b hb') with e | z
  .exact h2 e
  .exact h3 z
end
section
variable {X:Cx} {elt tgt iter:Expr} {ifs:List Expr} {scope:Scope} {pos:Pos} {N':List Str} {js:List (Option Nat)} {g:TG} {tt:TT} {te:TE}
structure FrC (X:Cx) (pins:List (Addr×Obj)) (H:Hp) (C:Addr):Prop where
 no:H C=none
 ne:C≠X.env.locals
 up:X.s₀.heap.objs.size<=C
 cl:∀x c,X.env.cells.lookup x=some c->c≠C
 pn:∀p∈X.pn++pins,p.1≠C
theorem FrC.turned {pins:List (Addr×Obj)} {σ:St} {H:Hp} {s:Shared} {C:Addr} {h':Heap} (F:FrC X pins H C) (I:Inv X pins σ H s) (hs:Heap.SameBut C s.heap h'):Inv X pins σ H { s with heap:=h' }:=
 I.turned (t':=s.toks) (fun b o hb e=>(hs.2 b hb).trans e) F.no F.ne (.inr F.up) F.cl F.pn
def GK (js:List (Option Nat)) (g:TG):Prop:=∀v σ H Q,g v σ H Q->g v σ H fun σ2 H2=>Q σ2 H2/\∀(i j:Nat),js[i]? = some (some j)->σ2[i]? = σ[i]?
theorem zjI {σ:St}:(pick σ js).length=js.length:=by unfold pick;rw[List.length_map]
theorem zi7 {pins:List (Addr×Obj)} {σ:St} {H:Hp} {s:Shared} {it:Addr} {fp:List Addr} {tn:Nat->Heap->Prop} {J:It} {Q:VK} {E:Value->Shared->Prop} {RR:Value->Addr->Result->Shared->Prop}
  (hc:X.calm=true) (hkind:scope.kind=.function) (hf:zeM X.env.scope scope=true) (hcap:zh0 X.N X.env.scope N' scope js=true) (hgk:GK js g)
  (I:Inv X pins σ H s) (T:Turn X.prog X.w X.K tgt J fp it tn) (st:tn 0 s.heap) (hfp:∀b∈fp,FpOk X pins H b) (h:lcGo J js g tt te σ H Q)
  (hb:∀(s':Shared) (H':Hp) (ex:List Addr),PG (blk X N' scope s' H' ex) tgt g/\PF (blk X N' scope s' H' ex) ifs tt/\PE (blk X N' scope s' H' ex) elt te)
  (hRR:∀(l C:Addr) (s':Shared) (m':Str->Option Value) (H':Hp) (acc:List V),Inv X pins σ (upd H' l (.lst acc)) s'->s'.heap.Ns C m'->FrC X pins (upd H' l (.lst acc)) C->Q (.ref l) (upd H' l (.lst acc))->RR (.ref l) C (.ok .next) s') :
  wpAny (model X.prog X.w) X.A (newList []) (fun acc s₃=>wpAny (model X.prog X.w) X.A (newFunctionEnv scope X.env.globals (zd1 X.env.cells scope.names []) [] X.env.qual none .none (some X.env)) (fun cenv s₄=>
   codeAny (model X.prog X.w) X.A (.compStart (.ListComp elt [⟨tgt,iter,ifs,0⟩] scope pos) 0 (.ref it) acc { cenv with scope:=relabel scope X.env }) (RR acc cenv.locals) s₄) E s₃) E s:=by
 have hz0:(([]:List V)).length<=sizeLine:=Nat.zero_le _;refine wpAny_newObj_type (zoS ?_);dsimp only
 -- the maker,the new list laid untracked
 have I3:Inv X pins σ H { s with heap:=s.heap.push { cls:=.type "list",dict:=none,data:=.seq ([]:List Value).toArray } }:=I.kept (t':=s.toks) fun b o e=>Heap.get?_push_of_some _ e
 have hl3:(s.heap.push { cls:=.type "list",dict:=none,data:=.seq ([]:List Value).toArray }).get? s.heap.objs.size=some { cls:=.type "list",dict:=none,data:=.seq ([]:List Value).toArray }:=Heap.get?_push_size _ rfl;have old3:∀b o,s.heap.get? b=some o->(s.heap.push { cls:=.type "list",dict:=none,data:=.seq ([]:List Value).toArray }).get? b=some o:=fun b o e=>Heap.get?_push_of_some _ e
 have sz3:(s.heap.push { cls:=.type "list",dict:=none,data:=.seq ([]:List Value).toArray }).objs.size=s.heap.objs.size+1:=Heap.size_push ..;generalize (s.heap.push { cls:=.type "list",dict:=none,data:=.seq ([]:List Value).toArray })=H3 at *;generalize hs3:({ s with heap:=H3 }:Shared)=s3 at *;have hh3:s3.heap=H3:=by rw[<-hs3]
 have hl:H s.heap.objs.size=none:=I.hok.fresh (Nat.le_refl _);have fplt:∀b∈fp,b < s.heap.objs.size:=fun b hb=>by obtain ⟨o,e,_⟩:=T.obj _ _ st b hb;exact Heap.lt_size e
 have lL:s.heap.objs.size≠X.env.locals:=Nat.ne_of_gt I.lt;have lfs:s.heap.objs.size∉X.fs:=I.nofs (Nat.le_refl _);have lc:∀x c,X.env.cells.lookup x=some c->c≠s.heap.objs.size:=fun x c e=>by obtain ⟨v,q⟩:=I.cell x c e;exact Nat.ne_of_lt q.lt
 have lp:∀p∈X.pn++pins,p.1≠s.heap.objs.size:=fun p hp=>Nat.ne_of_lt (Heap.lt_size (I.pin p hp).1)
 have hex:∀b∈s.heap.objs.size::fp,(b∈X.ex\/X.s₀.heap.objs.size<=b)/\b≠X.env.locals/\b∉X.fs/\(∀x c,X.env.cells.lookup x=some c->c≠b)/\b < s3.heap.objs.size:=fun b hb=>by
  rw[hh3,sz3];rcases List.mem_cons.mp hb with e | hb
  .rw[e];exact ⟨.inr I.sz,lL,lfs,lc,Nat.lt_succ_self _⟩
  .obtain ⟨f0,f1,f2,f3,f4,f5⟩:=hfp b hb;exact ⟨f3,f1,f2,f4,Nat.lt_succ_of_lt (fplt b hb)⟩
 have hexp:∀b∈s.heap.objs.size::fp,∀p∈X.pn++pins,p.1≠b:=fun b hb=>by
  rcases List.mem_cons.mp hb with e | hb
  .rw[e];exact lp
  .exact (hfp b hb).2.2.2.2.2
 -- the block
 have OK:(blk X N' scope s3 H (s.heap.objs.size::fp)).Ok:=zp3 I3 hkind hf hex;have clsub:=ziP X.env.cells scope.names [] (by simp);have cown:∀x c,(cellsFrom (s3.heap.objs.size+1) scope.names (zd1 X.env.cells scope.names [])).lookup x=some c->X.env.cells.lookup x=some c\/s3.heap.objs.size+1<=c:=fun x c e=>(zi8 _ _ _ x c e).imp (clsub x c) id
 have eC:H3.objs.size=s3.heap.objs.size:=by rw[hh3]
 have keep1:∀b o,s3.heap.get? b=some o->(pushCells (H3.push { cls:=.type "dict",data:=.dict #[] }) scope.names).get? b=some o:=fun b o e=>pushCells_keeps _ _ b o (Heap.get?_push_of_some _ (by rw[<-hh3];exact e))
 have atC:∀x c,(cellsFrom (s3.heap.objs.size+1) scope.names (zd1 X.env.cells scope.names [])).lookup x=some c->X.env.cells.lookup x=some c\/(pushCells (H3.push { cls:=.type "dict",data:=.dict #[] }) scope.names).IsCell c none:=fun x c e=>
  (zo7 scope.names (H3.push { cls:=.type "dict",data:=.dict #[] }) _ x c (by rw[Heap.size_push,eC];exact e)).imp (clsub x c) id
 have hns₁:(pushCells (H3.push { cls:=.type "dict",data:=.dict #[] }) scope.names).Ns s3.heap.objs.size fun _=>none:=by
  rw[<-eC];exact (Heap.Ns.new H3 (.type "dict")).keeps (pushCells_keeps _ _)
 generalize pushCells (H3.push { cls:=.type "dict",data:=.dict #[] }) scope.names=h₁ at *;have capL:N'.length=js.length:=by
  have:=(Bool.and_eq_true _ _).mp hcap
  simpa using this.1
 have capA:∀(i:Nat) (x:Str) (v:V),N'[i]? = some x->(pick σ js)[i]? = some (some v)->∃i0,σ[i0]? = some (some v)/\X.N[i0]? = some x/\(X.env.scope.names.lookup x=some .cell\/X.env.scope.names.lookup x=some .free)/\scope.names.lookup x=some .free:=fun i x v e1 e2=>by
  have ha:=List.all_eq_true.mp ((Bool.and_eq_true _ _).mp hcap).2;unfold pick at e2;rw[List.getElem?_map] at e2
  cases ej:js[i]? with
  | none=>rw[ej] at e2;cases e2
  | some j=>
   rw[ej] at e2;have hm:(x,j)∈N'.zip js:=List.mem_of_getElem? (i:=i) (by rw[List.getElem?_zip_eq_some];exact ⟨e1,ej⟩);have hp:=ha _ hm
   cases j with
   | none=>simp at e2
   | some i0=>
    simp only[Bool.and_eq_true,Bool.or_eq_true,decide_eq_true_eq] at hp;refine ⟨i0, ?_,hp.1.1,hp.1.2,hp.2⟩;simp only[Option.map_some,Option.some.injEq] at e2
    cases q:σ[i0]? with
    | none=>rw[q] at e2;simp at e2
    | some z=>rw[q] at e2;simp at e2;rw[e2]
 have Cf:∀{H':Hp} {s':Shared},HOk X.prog X.w H' s'.heap->s'.heap.objs.size<=s3.heap.objs.size->H' s3.heap.objs.size=none:=fun ok z=>ok.fresh z
 have I4:Inv (blk X N' scope s3 H (s.heap.objs.size::fp)) [(s.heap.objs.size,{ cls:=.type "list",dict:=none,data:=.seq ([]:List Value).toArray })] (pick σ js) H { s3 with heap:=h₁ }:=by
  refine ⟨OK,rfl,I3.bare,Un.kept keep1,⟨_,hns₁,fun i x v e1 e2 e3=>?_⟩,fun x c e=>?_,I3.hok.fresh (Nat.le_refl _),fun x c e=>(cown x c e).elim (I.freeC x c) fun q=>I3.hok.fresh (Nat.le_of_succ_le q),fun p hp=>?_,I3.hok.kept keep1, ?_⟩
  .obtain ⟨i0,q1,q2,q3,q4⟩:=capA i x v e1 e2;obtain ⟨m,hn,hlo⟩:=I3.loc;obtain ⟨u,r,lk⟩:=hlo i0 x v q2 q1 (.inr q3);refine ⟨u,r,.inr ?_⟩;have hk':X.env.kindOf x=some .cell\/X.env.kindOf x=some .free:=q3;rcases lk with ⟨k,_⟩ | ⟨_,c,hcc,hcell'⟩
   .rcases hk' with z | z<;>(rw[z] at k;cases k)
   .obtain ⟨c',hc'⟩:=zil X.env.cells scope.names [] x (PySem.mem_of_lookup q4) ⟨c,hcc⟩
    have:c'=c:=Option.some.inj ((clsub x c' hc').symm.trans hcc)
    subst this;refine ⟨?_,c',(znU _ _ _ x fun z=>by
      have z1:=List.all_eq_true.mp hf _ z;simp only[Bool.and_eq_true,Bool.or_eq_true,bne_iff_ne,ne_eq,decide_eq_true_eq] at z1;have z2:=z1.1.1.resolve_left fun z=>z trivial
      rw[q4] at z2;cases z2).trans hc', ?_⟩
    .rcases zfp (env:=X.env) q4 with z | z
     .exact .inl z
     .exact .inr z
    .obtain ⟨o,e,d⟩:=hcell';exact ⟨o,keep1 _ _ e,d⟩
  .rcases atC x c e with e | e
   .obtain ⟨v,o,e',d⟩:=I3.cell x c e;exact ⟨v,o,keep1 _ _ e',d⟩
   .exact ⟨_,e⟩
  .have e:p=(s.heap.objs.size,{ cls:=.type "list",dict:=none,data:=.seq ([]:List Value).toArray }):=by simpa [blk] using hp
   subst e;refine ⟨keep1 _ _ (by rw[hh3];exact hl3),hl, ?_, ?_,fun v z=>by cases z⟩
   .show s.heap.objs.size≠s3.heap.objs.size
    rw[hh3,sz3];exact Nat.ne_of_lt (Nat.lt_succ_self _)
   .exact fun z=>by
     rcases List.mem_cons.mp (I.stkSub _ z) with e | z
     .exact lL e
     .exact lfs z
  .rw[zjI];exact capL.symm
 obtain ⟨W,⟨m0,w0⟩,turn⟩:=h;have stat:∀{ob:Obj} {H':Hp},(∀b∈fp,H' b=none)->∀b∈fp,FpOk (blk X N' scope s3 H (s.heap.objs.size::fp)) [(s.heap.objs.size,ob)] H' b:=fun {ob H'} hn b hb=>by
  obtain ⟨f0,f1,f2,f3,f4,f5⟩:=hfp b hb;refine ⟨hn b hb, ?_,fun z=>?_,.inl (List.mem_cons_of_mem _ hb),fun x c e=>(cown x c e).elim (f4 x c) fun q=>Nat.ne_of_gt (Nat.lt_of_lt_of_le (Nat.lt_succ_of_lt (by rw[hh3,sz3];exact Nat.lt_succ_of_lt (fplt b hb))) q),fun p hp=>?_⟩
  .show b≠s3.heap.objs.size
   rw[hh3,sz3];exact Nat.ne_of_lt (Nat.lt_succ_of_lt (fplt b hb))
  .rcases List.mem_cons.mp (I.stkSub _ z) with e | z
   .exact f1 e
   .exact f2 z
  .have e:p=(s.heap.objs.size,ob):=by simpa [blk] using hp
   subst e;exact Nat.ne_of_gt (fplt b hb)
 have loop:∀s₅:Shared,s₅={ s3 with heap:=h₁ }->
   codeAny (model X.prog X.w) X.A (.compLoop (.ListComp elt [⟨tgt,iter,ifs,0⟩] scope pos) 0 (.ref it) (.ref s.heap.objs.size) (compEnvC scope (cellsFrom (s3.heap.objs.size+1) scope.names (zd1 X.env.cells scope.names [])) s3.heap.objs.size X.env))
    (RR (.ref s.heap.objs.size) s3.heap.objs.size) s₅:=by
  rintro s₅ rfl
  refine zhr (fun n s'=>∃(i:Nat) (acc:List V) (its:List Value) (k:Nat) (H':Hp),Vals acc its/\Inv (blk X N' scope s3 H (s.heap.objs.size::fp)) [(s.heap.objs.size,{ cls:=.type "list",data:=.seq its.toArray k })] (pick σ js) H' s'/\
   tn i s'.heap/\(∀b∈fp,H' b=none)/\W i n acc H') ?_ m0 ⟨0,[],[],0,H,.nil,I4,T.keep _ _ _ st (fun b hb o e=>keep1 b o (by rw[hh3];exact old3 b o e)),fun b hb=>(hfp b hb).1,w0⟩
  rintro n s' ⟨i,acc,its,k,H',rv,J1,st1,fr1,w1⟩
  rcases turn i n acc H' w1 with ⟨stop,hz,qn⟩ | ⟨go,hz,step⟩
  .refine thn (T.done (blk X N' scope s3 H (s.heap.objs.size::fp)) rfl rfl rfl hc i _ s' _ H' (fun _ _=>False) J1 (stat fr1) st1 stop) fun r s4 hx__=>?_
   obtain ⟨hr,I5⟩:=hx__;subst hr;obtain ⟨pe,pn,_⟩:=I5.pin (s.heap.objs.size,{ cls:=.type "list",data:=.seq its.toArray k }) (by simp[blk]);have IX:Inv X pins σ H' s4:=I3.call' I5.os I5.base I5.hok I5.bare fun b hb=>by
    obtain ⟨h1,h2,h3,h4,h5⟩:=hex b hb;exact ⟨h1,h2,h4,hexp b hb⟩
   have IY:Inv X pins σ (upd H' s.heap.objs.size (.lst acc)) s4:=IX.adopt pn lL (.inr I.sz) lc lp ⟨hz,its,k,rv,pe⟩;obtain ⟨m',hm',_⟩:=I5.loc;refine hRR _ _ s4 m' H' acc IY hm' ⟨?_, ?_, ?_, ?_, ?_⟩ (qn _ pn)
   .rw[zaJ (by rw[hh3,sz3];exact Nat.ne_of_gt (Nat.lt_succ_self _))];exact I5.free
   .rw[hh3,sz3];exact Nat.ne_of_gt (Nat.lt_succ_of_lt I.lt)
   .rw[hh3,sz3];exact Nat.le_succ_of_le I.sz
   .exact fun x c e=>by
     obtain ⟨v,q⟩:=I.cell x c e;rw[hh3,sz3];exact Nat.ne_of_lt (Nat.lt_succ_of_lt q.lt)
   .exact fun p hp=>by rw[hh3,sz3];exact Nat.ne_of_lt (Nat.lt_succ_of_lt (Heap.lt_size (I.pin p hp).1))
  .refine thn (T.item (blk X N' scope s3 H (s.heap.objs.size::fp)) rfl rfl rfl hc i _ s' _ H' (fun _ _=>False) J1 (stat fr1) st1 go) fun r s4 hx__=>?_
   obtain ⟨u,hr,h4⟩:=hx__;subst hr;refine thn h4 fun _ s5 hx__=>?_
   obtain ⟨x,H5,I5,r5,y5,st5,fr5⟩:=hx__;have I5':=I5.pinned (stat fr5) (T.obj _ _ st5);obtain ⟨hg,ht,he⟩:=hb s3 H (s.heap.objs.size::fp);refine thn (hg _ s5 _ H5 x u _ I5' r5 (hgk _ _ _ _ (step x H5 y5))) fun _ s6 hx__=>?_
   obtain ⟨σ6,H6,I6,q6,kk6⟩:=hx__;refine thn (ht _ s6 σ6 H6 _ I6 q6) fun b s7 hx__=>?_
   obtain ⟨H7,I7,q7⟩:=hx__;have fin:∀{σ8:St} {H8:Hp} {s8:Shared},Inv (blk X N' scope s3 H (s.heap.objs.size::fp)) ([(s.heap.objs.size,{ cls:=.type "list",data:=.seq its.toArray k })]++zgX fp s5.heap) σ8 H8 s8->
     tn (i+1) s8.heap/\(∀b∈fp,H8 b=none):=fun {σ8 H8 s8} I8=>by
    refine ⟨T.keep _ _ _ st5 fun b hb o e=>(I8.pin (b,o) (List.mem_append_right _ (List.mem_append_right _ (zen hb e)))).1,fun b hb=>?_⟩;obtain ⟨o,e,d⟩:=T.obj _ _ st5 b hb;exact (I8.pin (b,o) (List.mem_append_right _ (List.mem_append_right _ (zen hb e)))).2.1
   have wk:∀{H8:Hp} {s8:Shared} {pl:List (Addr×Obj)},Inv (blk X N' scope s3 H (s.heap.objs.size::fp)) pl σ6 H8 s8->Inv (blk X N' scope s3 H (s.heap.objs.size::fp)) pl (pick σ js) H8 s8:=
    fun I8=>I8.weak (by rw[zjI,I8.len];exact capL.symm) fun i v e=>by
     have e':=e;unfold pick at e';rw[List.getElem?_map] at e'
     cases ej:js[i]? with
     | none=>rw[ej] at e';cases e'
     | some j=>
      cases j with
      | none=>rw[ej] at e';simp at e'
      | some j=>rw[kk6 i j ej];exact e
   have pinl:∀{H8:Hp} {s8:Shared},Inv (blk X N' scope s3 H (s.heap.objs.size::fp)) ([(s.heap.objs.size,{ cls:=.type "list",data:=.seq its.toArray k })]++zgX fp s5.heap) σ6 H8 s8->
     s8.heap.get? s.heap.objs.size=some { cls:=.type "list",data:=.seq its.toArray k }/\H8 s.heap.objs.size=none:=fun I8=>by
    obtain ⟨a1,a2,_⟩:=I8.pin (s.heap.objs.size,{ cls:=.type "list",data:=.seq its.toArray k }) (List.mem_append_right _ (List.mem_append_left _ (List.mem_singleton.mpr rfl)));exact ⟨a1,a2⟩
   have lblk:s.heap.objs.size≠s3.heap.objs.size:=by rw[hh3,sz3];exact Nat.ne_of_lt (Nat.lt_succ_self _)
   have lbfs:s.heap.objs.size∉frs X.stack:=fun z=>by
    rcases List.mem_cons.mp (I.stkSub _ z) with e | z
    .exact lL e
    .exact lfs z
   cases b with
   | false=>
    obtain ⟨m',hm',w'⟩:=q7;obtain ⟨t8,f8⟩:=fin I7;exact ⟨m',hm',i+1,acc,its,k,H7,rv,(wk I7).pins_of (fun p hp=>by
     have e:p=(s.heap.objs.size,{ cls:=.type "list",data:=.seq its.toArray k }):=by simpa using hp
     subst e;exact ⟨(pinl I7).1,(pinl I7).2,lblk,lbfs,fun v z=>by cases z⟩),t8,f8,w'⟩
   | true=>
    rw[if_pos rfl];refine thn (he _ s7 σ6 H7 _ I7 q7) fun y s8 hx__=>?_
    obtain ⟨v,H8,I8,r8,m',hm',w'⟩:=hx__;obtain ⟨t8,f8⟩:=fin I8;obtain ⟨pl1,pl2⟩:=pinl I8;have hlen:=rv.length;refine append_at (hsz:=by show its.toArray.size<=sizeLine;rw[List.size_toArray,<-hlen];exact Nat.le_of_lt hz) pl1 fun h9 hs9 hD9=>?_
    have J0:Inv (blk X N' scope s3 H (s.heap.objs.size::fp)) [] (pick σ js) H8 s8:=(wk I8).pins_of fun p hp=>absurd hp (by simp)
    have J9:Inv (blk X N' scope s3 H (s.heap.objs.size::fp)) [] (pick σ js) H8 { s8 with heap:=h9 }:=
     J0.turned (t':=s8.toks) (it:=s.heap.objs.size) (fun b o hb e=>(hs9.2 b hb).trans e) pl2 lblk (.inl List.mem_cons_self) (fun x c e=>(cown x c e).elim (lc x c) fun q=>Nat.ne_of_gt (Nat.lt_of_lt_of_le (Nat.lt_succ_of_lt (by rw[hh3,sz3];exact Nat.lt_succ_self _)) q)) (fun p hp=>absurd hp (by simp[blk]))
    refine ⟨m',hm',i+1,acc++[v],its++[y],k+1,H8,rv.append (.cons r8 .nil),J9.pins_of (fun p hp=>?_),T.keep _ _ _ t8 (fun b hb o e=>(hs9.2 b (Nat.ne_of_lt (fplt b hb))).trans e),f8,w'⟩;have e:p=(s.heap.objs.size,{ cls:=.type "list",data:=.seq (its++[y]).toArray (k+1) }):=by simpa using hp
    subst e;refine ⟨?_,pl2,lblk,lbfs,fun v z=>by cases z⟩
    show h9.get? _=_
    rw[hD9];simp
 subst hs3;exact codeAny_compStart_list (loop _ rfl) (T.self _ 0 _ _ _ (T.keep _ _ _ st (fun b hb o e=>keep1 b o (by rw[hh3];exact old3 b o e))) (loop _ rfl))
theorem zoJ {wi:TI} (hc:X.calm=true) (hi:PI X tgt iter wi) (hcap:zh0 X.N X.env.scope N' scope js=true) (hgk:GK js g) (hf:zeM X.env.scope scope=true) (hkind:scope.kind=.function)
  (hb:∀(s':Shared) (H':Hp) (ex:List Addr),PG (blk X N' scope s' H' ex) tgt g/\PF (blk X N' scope s' H' ex) ifs tt/\PE (blk X N' scope s' H' ex) elt te)
  (hs:∀x,foldedSetIterable iter X.env x=pure x:=by intro _;rfl):PE X (.ListComp elt [⟨tgt,iter,ifs,0⟩] scope pos) (tLC wi js g tt te):=by
 intro pins s σ H Q I h;have hnames:∀y∈scope.names,y.2=.local->scope.names.lookup y.1=some .local:=fun y hy e=>by
  have:=List.all_eq_true.mp hf y hy
  simp only[Bool.and_eq_true,Bool.or_eq_true,bne_iff_ne,ne_eq,decide_eq_true_eq] at this;exact this.2.resolve_left fun z=>z e
 have hclos:closureFor scope X.env=pure (zd1 X.env.cells scope.names []):=zob fun y hy e=>by
  have:=List.all_eq_true.mp hf y hy
  simp only[Bool.and_eq_true,Bool.or_eq_true,bne_iff_ne,ne_eq,decide_eq_true_eq] at this;exact I.ok.has y.1 (this.1.2.resolve_left fun z=>z e)
 rw[eval_ListComp];refine wpAny_comprehension_free (use:=none) rfl hs hclos hkind hnames (thn (hi pins s σ H _ I h) fun v s1 h1=>thn h1 fun itv s2 h2=>?_);obtain ⟨it,fp,tn,J,H2,e,I2,T,st2,f2,go⟩:=h2;subst e;refine zi7 (Q:=Q) hc hkind hf hcap hgk I2 T st2 f2 go hb ?_;intro l C s' m' H' acc IY hn F q;exact ⟨m',hn,fun h' hs'=>⟨.ref l,_,F.turned IY hs',rfl,q⟩⟩
theorem ziX {wi:TI} {i:Nat} {y:Str} {py spos:Pos} (hN:X.N.Nodup) (hiy:X.N[i]? = some y) (hy:Loc X.env.scope y)
  (hc:X.calm=true) (hi:PI X tgt iter wi) (hcap:zh0 X.N X.env.scope N' scope js=true) (hgk:GK js g) (hf:zeM X.env.scope scope=true) (hkind:scope.kind=.function)
  (hb:∀(s':Shared) (H':Hp) (ex:List Addr),PG (blk X N' scope s' H' ex) tgt g/\PF (blk X N' scope s' H' ex) ifs tt/\PE (blk X N' scope s' H' ex) elt te)
  (hsw:swapsWith (.ListComp elt [⟨tgt,iter,ifs,0⟩] scope pos) (some (.Name y py)) spos.line X.env=pure true:=by rfl)
  (hs:∀x,foldedSetIterable iter X.env x=pure x:=by intro _;rfl) (hfn:X.fn y=true\/X.env.scope.names.lookup y=some .local:=by first | exact .inl rfl | exact .inr rfl | assumption) :
  PS X (.Assign [.Name y py] (.ListComp elt [⟨tgt,iter,ifs,0⟩] scope pos) spos) (tAsg (tLC wi js g tt te) (zkk i)):=by
 intro pins s σ H D I h;have hnames:∀y∈scope.names,y.2=.local->scope.names.lookup y.1=some .local:=fun y hy e=>by
  have:=List.all_eq_true.mp hf y hy
  simp only[Bool.and_eq_true,Bool.or_eq_true,bne_iff_ne,ne_eq,decide_eq_true_eq] at this;exact this.2.resolve_left fun z=>z e
 have hclos:closureFor scope X.env=pure (zd1 X.env.cells scope.names []):=zob fun y hy e=>by
  have:=List.all_eq_true.mp hf y hy
  simp only[Bool.and_eq_true,Bool.or_eq_true,bne_iff_ne,ne_eq,decide_eq_true_eq] at this;exact I.ok.has y.1 (this.1.2.resolve_left fun z=>z e)
 rw[exec_Assign_Name_used _ _ _ _ hsw];refine wpAny_bind (wpAny_standAt (wpAny_bind ?_))
 show wpAny _ X.A (do let _ <-comprehension (.ListComp elt [⟨tgt,iter,ifs,0⟩] scope pos) scope X.env _ (newList []) false (eval iter X.env) (some (assign (.Name y py) X.env))) _ _ s
 refine wpAny_bind (wpAny_mono (wpAny_comprehension_free (use:=some (assign (.Name y py) X.env)) (Q:=fun _ s'=>SP X pins D .next s') rfl hs hclos hkind hnames
  (thn (hi pins s σ H _ I h) fun v s1 h1=>thn h1 fun itv s2 h2=>?_)) (fun _ s' hq=>wpAny_pure (wpAny_pure hq)) fun _ _ e=>e)
 obtain ⟨it,fp,tn,J,H2,e,I2,T,st2,f2,go⟩:=h2;subst e;refine zi7 (Q:=fun x H1=>zkk i x σ H1 D.nx) hc hkind hf hcap hgk I2 T st2 f2 go hb ?_;intro l C s' m' H' acc IY hn F q
 show wpAny _ X.A (assign (.Name y py) X.env (.ref l)) _ _ s'
 refine wpAny_assign_Name (zhZ IY hN hiy hy (v:=.ref l) rfl (fun s4 I4 ⟨a,hsb,ha⟩=>?_) hfn);have Ca:C≠a:=by
  rcases ha with e | e
  .rw[e];exact F.ne
  .exact fun z=>F.cl y a e z.symm
 exact ⟨m',hn.sameBut hsb Ca,fun h' hs'=>⟨_,_,F.turned I4 hs',q⟩⟩
end
mutual
inductive Dn (H:Hp) (P:Addr->Prop):V->PyData->Prop where
 | non:Dn H P .non .none
 | bl (b:Bool):Dn H P (.bl b) (.bool b)
 | int (i:Int):Dn H P (.int i) (.int i)
 | str (x:Str):Dn H P (.str x) (.str x)
 | lst {a:Addr} {xs:List V} {ds:List PyData}:¬P a->H a=some (.lst xs)->Dns H P xs ds->Dn H P (.ref a) (.list ds)
 | tup {a:Addr} {xs:List V} {ds:List PyData}:¬P a->H a=some (.tup xs)->Dns H P xs ds->Dn H P (.ref a) (.tuple ds)
inductive Dns (H:Hp) (P:Addr->Prop):List V->List PyData->Prop where
 | nil:Dns H P [] []
 | cons {x:V} {d:PyData} {xs:List V} {ds:List PyData}:Dn H P x d->Dns H P xs ds->Dns H P (x::xs) (d::ds)
end
theorem Same.new {H:Hp} {p:Addr} {o:HO} (hn:H p=none):Same H (upd H p o):=fun b u e=>by rw[zaJ (zaC e hn)];exact e
theorem Dn.mapX {P P':Addr->Prop} {H H':Hp} (m:∀a o,H a=some o->¬P a->H' a=some o/\¬P' a) {v:V} {d:PyData} (h:Dn H P v d):Dn H' P' v d:=
 Dn.rec (motive_1:=fun v d _=>Dn H' P' v d) (motive_2:=fun v d _=>Dns H' P' v d) .non .bl .int .str (fun n h _ ih=>.lst (m _ _ h n).2 (m _ _ h n).1 ih) (fun n h _ ih=>.tup (m _ _ h n).2 (m _ _ h n).1 ih) .nil (fun _ _ a b=>.cons a b) h
theorem Dns.mapX {P P':Addr->Prop} {H H':Hp} (m:∀a o,H a=some o->¬P a->H' a=some o/\¬P' a) {v:List V} {d:List PyData} (h:Dns H P v d):Dns H' P' v d:=
 Dns.rec (motive_1:=fun v d _=>Dn H' P' v d) (motive_2:=fun v d _=>Dns H' P' v d) .non .bl .int .str (fun n h _ ih=>.lst (m _ _ h n).2 (m _ _ h n).1 ih) (fun n h _ ih=>.tup (m _ _ h n).2 (m _ _ h n).1 ih) .nil (fun _ _ a b=>.cons a b) h
theorem Dn.weak {P P':Addr->Prop} {H:Hp} (e:∀a,P' a->P a) {v:V} {d:PyData} (h:Dn H P v d):Dn H P' v d:=h.mapX fun a _ x n=>⟨x,fun z=>n (e a z)⟩
theorem Dns.length {P:Addr->Prop} {H:Hp}:∀{xs:List V} {ds:List PyData},Dns H P xs ds->xs.length=ds.length
 | _,_,.nil=>rfl
 | _,_,.cons _ t=>by simp[Dns.length t]
theorem Dns.getV {P:Addr->Prop} {H:Hp}:∀{xs:List V} {ds:List PyData} {i:Nat} {v:V},Dns H P xs ds->xs[i]? = some v->∃d,ds[i]? = some d/\Dn H P v d
 | _,_,_,_,.nil,e=>by simp at e
 | _,_,0,_,.cons a _,e=>by simp at e;subst e;exact ⟨_,rfl,a⟩
 | _,_,i+1,d,.cons _ t,e=>by
  obtain ⟨v,h1,h2⟩:=Dns.getV (i:=i) (v:=d) t (by simpa using e);exact ⟨v,by simpa using h1,h2⟩
theorem Dns.app {P:Addr->Prop} {H:Hp}:∀{xs ys:List V} {ds es:List PyData},Dns H P xs ds->Dns H P ys es->Dns H P (xs++ys) (ds++es)
 | _,_,_,_,.nil,s=>s
 | _,_,_,_,.cons r t,s=>.cons r (Dns.app t s)
theorem Dns.take {P:Addr->Prop} {H:Hp}:∀{xs:List V} {ds:List PyData} (n:Nat),Dns H P xs ds->Dns H P (xs.take n) (ds.take n)
 | _,_,0,_=>.nil
 | _,_,_+1,.nil=>.nil
 | _,_,n+1,.cons r t=>.cons r (Dns.take n t)
theorem Dns.drop {P:Addr->Prop} {H:Hp}:∀{xs:List V} {ds:List PyData} (n:Nat),Dns H P xs ds->Dns H P (xs.drop n) (ds.drop n)
 | _,_,0,r=>r
 | _,_,_+1,.nil=>.nil
 | _,_,n+1,.cons _ t=>Dns.drop n t
theorem Dns.rev {P:Addr->Prop} {H:Hp}:∀{xs:List V} {ds:List PyData},Dns H P xs ds->Dns H P xs.reverse ds.reverse
 | _,_,.nil=>.nil
 | _,_,.cons r t=>by rw[List.reverse_cons,List.reverse_cons];exact Dns.app (Dns.rev t) (.cons r .nil)
theorem Dns.ints {P:Addr->Prop} {H:Hp}:∀{xs:List V} {ns:List Int},Dns H P xs (ns.map PyData.int)->xs=ns.map V.int
 | _,[],h=>by cases h;rfl
 | _,n::ns,h=>by
  cases h with
  | cons a t=>cases a;rw[Dns.ints t];rfl
theorem Dns.ofInts {P:Addr->Prop} {H:Hp}:∀(ns:List Int),Dns H P (ns.map V.int) (ns.map PyData.int)
 | []=>.nil
 | n::ns=>.cons (.int n) (Dns.ofInts ns)
section
variable {X:Cx} {pins:List (Addr×Obj)} {σ:St} {H:Hp} {s:Shared} {P:Addr->Prop}
theorem rd_a (I:Inv X pins σ H s):(∀u,RelV .non u->∃as,Reads s.heap u .none as)/\(∀b u,RelV (.bl b) u->∃as,Reads s.heap u (.bool b) as)/\(∀i u,RelV (.int i) u->∃as,Reads s.heap u (.int i) as)/\(∀x u,RelV (.str x) u->∃as,Reads s.heap u (.str x) as):=
 ⟨fun u r=>by cases r;exact ⟨_,.none⟩,fun b u r=>by cases r;exact ⟨_,.bool b⟩,fun i u r=>by obtain ⟨t,rfl⟩:=r;exact ⟨_,.int i t⟩,fun x u r=>by obtain ⟨t,rfl⟩:=r;exact ⟨_,.str x t⟩⟩
theorem rd_l (I:Inv X pins σ H s) {a:Addr} {xs:List V} {ds:List PyData} (_:¬P a) (h:H a=some (.lst xs)) (_:Dns H P xs ds) (ih:∀u,Vals xs u->∃as,ReadsAll s.heap u ds as) (u:Value) (r:RelV (.ref a) u):∃as,Reads s.heap u (.list ds) as:=by
 cases r;obtain ⟨its,rv,⟨o,n,e,c,_,d⟩,_⟩:=I.list (SqL.of h);obtain ⟨as,q⟩:=ih _ rv;exact ⟨_,reads_list_at e c d (by simpa using q)⟩
theorem rd_t (I:Inv X pins σ H s) {a:Addr} {xs:List V} {ds:List PyData} (_:¬P a) (h:H a=some (.tup xs)) (_:Dns H P xs ds) (ih:∀u,Vals xs u->∃as,ReadsAll s.heap u ds as) (u:Value) (r:RelV (.ref a) u):∃as,Reads s.heap u (.tuple ds) as:=by
 cases r;obtain ⟨its,rv,⟨o,e,c,n,d⟩,_⟩:=I.tuple (SqT.of h);obtain ⟨as,q⟩:=ih _ rv;exact ⟨_,reads_tuple_at e c d (by simpa using q)⟩
theorem rd_c {x:V} {d:PyData} {xs:List V} {ds:List PyData} (_:Dn H P x d) (_:Dns H P xs ds) (i1:∀u,RelV x u->∃as,Reads s.heap u d as) (i2:∀u,Vals xs u->∃as,ReadsAll s.heap u ds as) (u:List Value) (r:Vals (x::xs) u):∃as,ReadsAll s.heap u (d::ds) as:=by
 cases r with
 | cons r1 r2=>
  obtain ⟨as,q⟩:=i1 _ r1;obtain ⟨bs,q'⟩:=i2 _ r2;exact ⟨_,.cons q q'⟩
theorem Dn.reads (I:Inv X pins σ H s) {v:V} {d:PyData} {u:Value} (h:Dn H P v d) (r:RelV v u):∃as,Reads s.heap u d as:=
 Dn.rec (motive_1:=fun v d _=>∀u,RelV v u->∃as,Reads s.heap u d as) (motive_2:=fun v d _=>∀u,Vals v u->∃as,ReadsAll s.heap u d as) (rd_a I).1 (rd_a I).2.1 (rd_a I).2.2.1 (rd_a I).2.2.2 (rd_l I) (rd_t I) (fun u r=>by cases r;exact ⟨_,.nil⟩) (rd_c (s:=s)) h u r
end
section
variable {X:Cx}
open PySem.SeqAt in
@[irreducible] def rEqD (f:Bool->Bool):R2:=fun x y H Q=>(∃i j,x=.int i/\y=.int j/\Q (.bl (f (decide (i=j)))) H)\/
 ∃(P P':Addr->Prop) (d e:PyData),Dn H P x d/\Dn H P' y e/\shaped d=true/\shaped e=true/\Q (.bl (f (PyData.eqv d e))) H
theorem zrK (hu:X.A.units+64 < cLine):OpR X (compareOp .Eq) (rEqD fun b=>b):=by
 intro pins s σ H x y v u Q I rx ry h;unfold rEqD at h;rcases h with ⟨i,j,rfl,rfl,q⟩ | ⟨P,P',d,e,hd,he,sd,se,q⟩
 .obtain ⟨t,rfl⟩:=rx;obtain ⟨t',rfl⟩:=ry;exact eq_int (by rw[Bool.beq_eq_decide_eq];exact ⟨.bl _,H,I,rfl,q⟩)
 .obtain ⟨as,ra⟩:=hd.reads I rx;obtain ⟨bs,rb⟩:=he.reads I ry;exact eq_dataH ra rb sd se hu ⟨.bl _,H,I,rfl,q⟩
theorem zqm (hu:X.A.units+64 < cLine):OpR X (compareOp .NotEq) (rEqD fun b=>!b):=by
 intro pins s σ H x y v u Q I rx ry h;unfold rEqD at h;rcases h with ⟨i,j,rfl,rfl,q⟩ | ⟨P,P',d,e,hd,he,sd,se,q⟩
 .obtain ⟨t,rfl⟩:=rx;obtain ⟨t',rfl⟩:=ry;exact ne_int (by rw[bne,Bool.beq_eq_decide_eq];exact ⟨.bl _,H,I,rfl,q⟩)
 .obtain ⟨as,ra⟩:=hd.reads I rx;obtain ⟨bs,rb⟩:=he.reads I ry;exact ne_dataH ra rb sd se hu ⟨.bl _,H,I,rfl,q⟩
open PySem.SeqAt in
theorem eqD {H:Hp} {f:Bool->Bool} {P P':Addr->Prop} {x y:V} {d e:PyData} {Q:VK} (hd:Dn H P x d) (he:Dn H P' y e) (sd:shaped d=true) (se:shaped e=true) (q:Q (.bl (f (PyData.eqv d e))) H):rEqD f x y H Q:=by
 unfold rEqD;exact .inr ⟨P,P',d,e,hd,he,sd,se,q⟩
end
def cutD {α:Type} (xs:List α) (lo hi:Option Int):List α:=(xs.drop (HT.sIx xs.length 0 lo)).take (HT.sIx xs.length xs.length hi - HT.sIx xs.length 0 lo)
theorem Dns.cut {P:Addr->Prop} {H:Hp} {xs:List V} {ds:List PyData} (h:Dns H P xs ds) (lo hi:Option Int):Dns H P (cutV xs lo hi) (cutD ds lo hi):=by
 unfold cutV cutD;rw[h.length];exact (h.drop _).take _
section
variable {X:Cx}
theorem zkx (hc:X.calm=true):CallR X (.builtin "sum") (fun xs H Q=>∃(x:V) (P:Addr->Prop) (ns:List Int),xs=[x]/\Dn H P x (.list (ns.map PyData.int))/\Q (.int ns.sum) H):=by
 intro pins s σ H xs us Q I r h;obtain ⟨x,P,ns,rfl,hd,q⟩:=h;obtain ⟨u,rfl,rx⟩:=zgB r
 cases hd with
 | lst n h t=>
  cases rx;obtain ⟨its,rv,pl,hz⟩:=I.list (SqL.of h);rw[t.ints] at rv;have hi:IntsAre its ns:=zgT rv;have hl:=pl.isList;obtain ⟨ys,hy⟩:=hi.allInts.items;rw[hy] at hl;refine sum_intListG (I.ok.hd hc) hl fun h' tk t' hk=>⟨.int ns.sum,H,I.kept hk,⟨t', ?_⟩,q⟩
  have e1:=hi.numsOf;have e2:numsOf its.toArray.toList=ys.toList.map (·.1):=by rw[hy];exact nums_intItems ys
  have e3:ns=ys.toList.map (·.1):=by rw[<-e1];simpa using e2
  rw[preSum_eq,List.take_of_length_le (by simp),<-e3]
theorem zif:CallR X (.builtin "sorted") (fun xs H Q=>∃(x:V) (P:Addr->Prop) (ns:List Int),xs=[x]/\Dn H P x (.list (ns.map PyData.int))/\ns.length < 64/\
  ∀(l:Addr) (ms:List Int),H l=none->ms.Perm ns->ms.Pairwise (·<=·)->Q (.ref l) (upd H l (.lst (ms.map V.int)))):=by
 intro pins s σ H xs us Q I r h;obtain ⟨x,P,ns,rfl,hd,h64,q⟩:=h;obtain ⟨u,rfl,rx⟩:=zgB r
 cases hd with
 | @lst a _ _ n h t=>
  cases rx;obtain ⟨its,rv,pl,hz⟩:=I.list (SqL.of h);rw[t.ints] at rv;have hi:IntsAre its ns:=zgT rv;have hlen:=rv.length;rw[List.length_map] at hlen;refine sorted_ints pl.isList hi ∅ fun out ns' a1 a2 a3=>?_
  obtain ⟨e,he⟩:=sortedAll_at s.heap its out;have hf:H (s.heap.objs.size+1)=none:=I.hok.fresh (Nat.le_succ _);refine ⟨.ref _,_,I.laid (t':=s.toks) (o:=.lst (ns'.map V.int)) (fun b o e=>sortedAll_old e) (Nat.le_succ _) ?_,rfl,q _ ns' hf a2 a3⟩;have hl2:ns'.length=ns.length:=a2.length_eq;refine ⟨by rw[List.length_map,hl2];have:=hz;rw[t.ints,List.length_map] at this;exact this,out.toList,e,zf7 a1, ?_⟩;rw[he]
  all_goals rfl
theorem zpl:MtR X "int.bit_length" (fun x xs H Q=>∃i,x=.int i/\xs=[]/\Q (.int (Builtin.Int.intBits i)) H):=by
 intro pins s σ H x xs v us Q I rx rs h;obtain ⟨i,rfl,rfl,q⟩:=h;obtain ⟨t,rfl⟩:=rx;cases rs;exact call_int_bit_length ⟨.int _,H,I.tok _,⟨_,rfl⟩,q⟩
structure zjq (P:Program) (w:World) (K:PySem.W.Frag) (mg:Str->Option Value) (base:Heap) (x:Str) (ps:List Str) (k:Nat) (sp:Sp):Prop where
 ex:∃(f:Addr) (fd:FuncData),mg x=some (.ref f)/\PySem.W.keepIn K (.ref f)=true/\Binds K fd ps []/\FnOk P w K mg base CX0 k f fd ps sp/\∃oc od osl,K.lookup f=some ⟨oc,od,.func fd,osl⟩
def Ite (K:PySem.W.Frag) (l:Addr):It:=
 ⟨fun i H=>∃xs x,SqL K H l xs/\xs[i]? = some x,fun i H v H'=>∃t x,v=.ref t/\H t=none/\H'=upd H t (.tup [.int i,x])/\∀xs,SqL K H l xs->xs[i]? = some x,fun i H=>∃xs,SqL K H l xs/\xs.length<=i⟩
theorem zlp {P:Program} {w:World} {K:PySem.W.Frag} {elts:List Expr} {k:Nat} {tp:Pos} (l e it:Addr) (hne:e≠it):Turn P w K (.Tuple elts k tp) (Ite K l) [e,it] e (fun i h=>(∃old,IsEnum h e it i old)/\h.IsListIter it l i) where
 mem:=by simp
 obj:=fun i h st b hb=>by
  obtain ⟨⟨old,he⟩,⟨o,ho,hc,hd⟩⟩:=st;rcases List.mem_cons.mp hb with z | hb
  .subst z;exact ⟨_,he,fun v z=>by cases z⟩
  .have z:b=it:=by simpa using hb
   subst z;exact ⟨o,ho,fun v z=>by rw[hd] at z;cases z⟩
 keep:=fun i h h' st kk=>by
  obtain ⟨⟨old,he⟩,hit⟩:=st;exact ⟨⟨old,kk e (by simp) _ he⟩,hit.at fun o q=>kk it (by simp) o q⟩
 item:=by
  intro X hP hw hK hc i pins s σ H E I hf st hg;subst hP hw hK;obtain ⟨⟨old,he⟩,hit⟩:=st;obtain ⟨xs,x,hq,hx⟩:=hg;obtain ⟨its,rv,p,hz⟩:=I.list hq;obtain ⟨u,hu,ru⟩:=rv.get hx;refine wpAny_pyNext_enum_item he hit p.isList (x:=u) (by simpa using hu) hne fun h' ho hit' hT hsz hk=>?_
  refine ⟨_,rfl,wpAny_letOwnedTupleGo_enum ho fun h'' he'' hs''=>?_⟩;have hfresh:H s.heap.objs.size=none:=I.hok.fresh (Nat.le_refl _);have helt:e < s.heap.objs.size:=Heap.lt_size he;have kk:∀b o,b≠e->b≠it->s.heap.get? b=some o->h''.get? b=some o:=fun b o n1 n2 q=>(hs''.2 b n1).trans (hk b o n1 n2 q)
  have hT'':h''.get? s.heap.objs.size=some { cls:=.type "tuple",data:=.seq #[.int i s.toks,u] }:=(hs''.2 _ (Nat.ne_of_gt helt)).trans hT;have nfp:∀b u',H b=some u'->b≠e/\b≠it:=fun b u' q=>⟨fun z=>(by rw[z,(hf e (by simp)).1] at q;cases q),fun z=>(by rw[z,(hf it (by simp)).1] at q;cases q)⟩
  obtain ⟨o2,ho2,c2,d2⟩:=id hit';have hit'':h''.IsListIter it l (i+1):=⟨o2,(hs''.2 it hne.symm).trans ho2,c2,d2⟩;have J:Inv X pins σ (upd H s.heap.objs.size (.tup [.int i,x])) { s with heap:=h'',toks:=s.toks+1 }:=by
   refine I.step (h':=h'') (g':=s.gens) (d':=s.drawn) (t':=s.toks+1) (ch:=[e,it]) (fun b hb=>?_) (fun b o _ _ hcn q _=>kk b o (fun z=>hcn (by simp[z])) (fun z=>hcn (by simp[z])) q)
    (fun b o _ _ hcn q _=>⟨o.slots,kk b o (fun z=>hcn (by simp[z])) (fun z=>hcn (by simp[z])) q⟩) (fun b o _ q nn=>by rw[zaJ (Nat.ne_of_lt (Heap.lt_size q))];exact nn)
    (fun b o hcn q=>⟨o,kk b o (fun z=>hcn (by simp[z])) (fun z=>hcn (by simp[z])) q⟩) (fun b ys q=>by rw[zaJ (zaC q hfresh)];exact q) (fun b o u' q=>by rw[zaJ (zaC q hfresh)];exact q)
    (fun b ps q=>⟨#[],by rw[zaJ (zaC q hfresh),q];simp⟩) (fun m hm=>?_) ?_ I.bare
   .obtain ⟨f0,f1,f2,f3,f4,f5⟩:=hf b hb;exact ⟨f3,f1,f4,f5⟩
   .obtain ⟨o,es,ep,hoL,r⟩:=hm;exact ⟨o,es,ep,kk _ o (fun z=>(hf e (by simp)).2.1 z.symm) (fun z=>(hf it (by simp)).2.1 z.symm) hoL,r⟩
   .intro b u' q
    by_cases hb:b=s.heap.objs.size
    .subst hb;rw[zbx] at q;cases q;exact ⟨by show 2<=sizeLine;decide,[.int i s.toks,u],.cons ⟨_,rfl⟩ (.cons ru .nil),⟨_,hT'',rfl,_,rfl⟩⟩
    .rw[zaJ hb] at q;refine (I.hok b u' q).stay (fun c v hcc qq=>kk c v ?_ ?_ qq) (fun c qq=>by rw[zaJ (zaC qq hfresh)];exact qq) fun c ys qq=>by rw[zaJ (zaC qq hfresh)];exact qq
     .rcases hcc with z | z
      .rw[z];exact (nfp b u' q).1
      .exact (nfp c _ z).1
     .rcases hcc with z | z
      .rw[z];exact (nfp b u' q).2
      .exact (nfp c _ z).2
  refine ⟨.ref s.heap.objs.size,_,J,rfl,⟨_,x,rfl,hfresh,rfl,fun ys hy=>by rw[I.list_inj hy hq];exact hx⟩,⟨⟨_,by simpa using he''⟩,hit''⟩,fun b hb=>?_⟩;rw[zaJ]
  .exact (hf b hb).1
  .rcases List.mem_cons.mp hb with z | hb
   .rw[z];exact Nat.ne_of_lt helt
   .have z:b=it:=by simpa using hb
    rw[z];obtain ⟨o3,ho3,_⟩:=hit;exact Nat.ne_of_lt (Heap.lt_size ho3)
 done:=by
  intro X hP hw hK hc i pins s σ H E I hf st hg;subst hP hw hK;obtain ⟨⟨old,he⟩,hit⟩:=st;obtain ⟨xs,hq,hx⟩:=hg;obtain ⟨its,rv,p,hz⟩:=I.list hq;have hl:=rv.length;obtain ⟨f0,f1,f2,f3,f4,f5⟩:=hf it (by simp);exact wpAny_pyNext_enum_end (I.ok.hd hc) he hit p.isList (by simp;omega) fun h' eb=>⟨rfl,I.turned (t':=s.toks) (fun b o hb q=>eb b o hb q) f0 f1 f3 f4 f5⟩
 self:=fun _ _ _ _ _ st h=>by
  obtain ⟨⟨old,he⟩,_⟩:=st;exact wpAny_pyIter_enum he h
theorem Turn.imp {P:Program} {w:World} {K:PySem.W.Frag} {tg:Expr} {J J':It} {fp:List Addr} {it:Addr} {tn:Nat->Heap->Prop} (T:Turn P w K tg J fp it tn)
  (hg:∀i H,J'.go i H->J.go i H) (hy:∀i H x H',J'.go i H->J.yld i H x H'->J'.yld i H x H') (hs:∀i H,J'.stop i H->J.stop i H):Turn P w K tg J' fp it tn where
 mem:=T.mem
 obj:=T.obj
 keep:=T.keep
 item:=fun X a b c d i pins s σ H E I hf st go=>thn (T.item X a b c d i pins s σ H E I hf st (hg i H go)) fun r s1 ⟨u,e,h⟩=>⟨u,e,thn h fun _ s2 ⟨x,H',I',r',y,z⟩=>⟨x,H',I',r',hy i H x H' go y,z⟩⟩
 done:=fun X a b c d i pins s σ H E I hf st stop=>T.done X a b c d i pins s σ H E I hf st (hs i H stop)
 self:=T.self
def ItL (a:Addr):It:=⟨fun i H=>∃xs x,H a=some (.lst xs)/\xs[i]? = some x,fun i H x H'=>H'=H/\∀xs,H a=some (.lst xs)->xs[i]? = some x,fun i H=>∃xs,H a=some (.lst xs)/\xs.length<=i⟩
def ItE (l:Addr):It:=
 ⟨fun i H=>∃xs x,H l=some (.lst xs)/\xs[i]? = some x,fun i H v H'=>∃t x,v=.ref t/\H t=none/\H'=upd H t (.tup [.int i,x])/\∀xs,H l=some (.lst xs)->xs[i]? = some x,fun i H=>∃xs,H l=some (.lst xs)/\xs.length<=i⟩
theorem zp5 {P:Program} {w:World} {K:PySem.W.Frag} {tg:Expr} (a it:Addr):Turn P w K tg (ItL a) [it] it (fun i h=>h.IsListIter it a i):=
 (zkH (K:=K) a it).imp (fun i H ⟨xs,x,h,e⟩=>⟨xs,x,SqL.of h,e⟩) (fun i H x H' _ ⟨e,y⟩=>⟨e,fun xs h=>y xs (SqL.of h)⟩) (fun i H ⟨xs,h,e⟩=>⟨xs,SqL.of h,e⟩)
theorem zqd {P:Program} {w:World} {K:PySem.W.Frag} {elts:List Expr} {k:Nat} {tp:Pos} (l e it:Addr) (hne:e≠it):Turn P w K (.Tuple elts k tp) (ItE l) [e,it] e (fun i h=>(∃old,IsEnum h e it i old)/\h.IsListIter it l i):=
 (zlp (K:=K) l e it hne).imp (fun i H ⟨xs,x,h,e⟩=>⟨xs,x,SqL.of h,e⟩) (fun i H x H' _ ⟨t,z,h1,h2,h3,y⟩=>⟨t,z,h1,h2,h3,fun xs h=>y xs (SqL.of h)⟩) (fun i H ⟨xs,h,e⟩=>⟨xs,SqL.of h,e⟩)
def iE (ta:TA):TI:=fun σ H R=>ta σ H fun vs H1=>∃l xs,vs=[.ref l]/\H1 l=some (.lst xs)/\R (ItE l) H1
theorem pi_E {a:Expr} {ta:TA} {p pos:Pos} {elts:List Expr} {k:Nat} {tp:Pos} (hg:Gl X "enumerate") (hm:X.mg "enumerate"=none) (ha:PA X [a] ta) (hs:starEach [a] X.env=[(false,eval a X.env)]:=by rfl) :
  PI X (.Tuple elts k tp) (.Call (.Name "enumerate" p) [a] [] pos) (iE ta):=by
 intro pins s σ H R I h;refine Call_ (zgR I hg hm boot_enumerate (PyProof.Rows.callWith_type1 (thn (ha pos pins s σ H _ I h) fun us s1 ⟨vs,H1,I1,r1,q1⟩=>?_) hs rfl));obtain ⟨l,xs,e,hq,q⟩:=q1;subst e;obtain ⟨u,rfl,ru⟩:=zgB r1;cases ru;obtain ⟨its,rv,pl,hz⟩:=I1.list (SqL.of hq);refine call_enumerate_list pl.isList fun h' he hit hsz hk=>?_
 have I2:Inv X pins σ H1 { s1 with heap:=h' }:=I1.kept (t':=s1.toks) hk;refine wpAny_pyIter_enum (s:={ s1 with heap:=h' }) he ?_;refine ⟨s1.heap.objs.size+1,[s1.heap.objs.size+1,s1.heap.objs.size],_,ItE l,H1,rfl,I2,zqd l _ _ (Nat.ne_of_gt (Nat.lt_succ_self _)),⟨⟨_,by simpa using he⟩,hit⟩,fun b hb=>?_,q⟩;have hge:s1.heap.objs.size<=b:=by
  rcases List.mem_cons.mp hb with z | hb
  .rw[z];exact Nat.le_succ _
  .have z:b=s1.heap.objs.size:=by simpa using hb
   rw[z];exact Nat.le_refl _
 exact I1.fpOk hge (I1.hok.fresh hge)
end
section
variable {X:Cx}
def zkr (i j:Int):Prop:=0 < j/\j < 2 ^ 200
theorem zmr:OpR X (binaryOp .FloorDiv) (rI zkr fun i j=>.int (i / j)):=opI fun i j _ _ _ _ _ hc q=>by
 have h1:(0:Int) < j:=hc.1;have h2:j < 2 ^ 200:=hc.2;refine floordiv_int ∅ (by rw[Int.fdiv_eq_ediv_of_nonneg i ∅];exact q) (.inl (PyProof.noPylong_of_log2 ?_));have h3:j.natAbs < 2 ^ 200:=by omega
 have h4:j.natAbs≠0:=by omega
 exact Nat.lt_trans ((Nat.log2_lt h4).mpr h3) (by decide)
theorem zgo {i:Int} {j:Nat} {p pos:Pos}:PE X (.UnaryOp .USub (.Constant (.int i) j p) pos) (tC (.int (-i))):=by
 intro pins s σ H Q I h;exact zqP un_neg zn3 pins s σ H Q I ⟨i,rfl,h⟩
theorem zgK {x:Str} {n:Int} {pos:Pos} (hg:Gl X x) (h:∃t,X.mg x=some (.int n t)) (hd:(x==("__debug__":Str))=false:=by decide +kernel):PE X (.Name x pos) (tC (.int n)):=by
 obtain ⟨t,h⟩:=h;exact zoV hg h ⟨t,rfl⟩ hd
end
theorem zky {P:Program} {w:World} {K:PySem.W.Frag} {mg:Str->Option Value} {base:Heap} {x:Str} {st:Stmt} {N ps:List Str} {k:Nat} {sp:Sp} (d:∃f fd,Fun K x x st f fd/\mg x=some (.ref f))
  (hb:∀(kV doc pm:Value) (an:Option Addr) (cdv ct:Value) (us:List Value),us.length=ps.length->bindArgs (PySem.W.fnOf x x (zdu st) (zch st) (zaf st) .none kV doc pm an cdv ct) ⟨us,[]⟩=pure (ps.zip us))
  (S:zak N ps (zaf st)) (len:∀vs H Q E,sp vs H Q E->vs.length=ps.length)
  (hbody:∀(f:Addr) (cdv:Value) (A:Around) (outer:List Env) (s:Shared) (H:Hp) (vs:List V) (Q:VK) (E:XK),Room k (A.deeper (envOfC x (zaf st) s.heap.objs.size f cdv))->sp vs H Q E->
   ∃t,PSs (cxOf CX0 P w K mg base N x (zaf st) f cdv A outer s H E).nox (zch st) t/\t { nx:=fun _ H'=>Q .non H',rt:=Q } (start N vs) H):zjq P w K mg base x ps (k+1) sp:=by
 obtain ⟨f,fd,F,hm⟩:=d;refine ⟨f,fd,hm,F.kp,F.binds hb,F.ok S len fun cdv A outer s H vs Q E hr h=>hbody f cdv A outer s H vs Q E hr h, ?_⟩;obtain ⟨oc,od,_,_,_,_,_,_,osl,_,lk,_⟩:=F.ex;exact ⟨oc,od,osl,lk⟩
theorem zum {P:Program} {w:World} {K:PySem.W.Frag} {mg:Str->Option Value} {x p:Str} {st:Stmt} {k:Nat} {sp:Sp} {fa:Addr} (d:∃f fd,Fun K x x st f fd/\mg x=some (.ref f))
  (hb:∀(kV doc pm:Value) (an:Option Addr) (cdv ct u:Value),bindArgs (PySem.W.fnOf x x (zdu st) (zch st) (zaf st) .none kV doc pm an cdv ct) ⟨[u],[]⟩=pure [(p,u)])
  (C:∀base,zjq P w K mg base x [p] k sp) (hmg:mg x=some (.ref fa)) :
  ∃fd:FuncData,(∀(s:Shared) (u:Value),BindsTo s fd ⟨[u],[]⟩ [(p,u)])/\∀base:Heap,K.In base->base.Ns mainGlobals mg->FnOk P w K mg base CX0 k fa fd [p] sp:=by
 obtain ⟨f,fd,F,hm⟩:=d;rw[hmg] at hm;cases hm;refine ⟨fd,fun s u=>?_,fun base _ _=>?_⟩
 .obtain ⟨oc,od,kV,doc,pm,an,cdv,ct,osl,rfl,lk,hcd⟩:=F.ex;exact .of_eq (hb kV doc pm an cdv ct u)
 .obtain ⟨f',fd',h1,_,_,h4,oc',od',osl',lk'⟩:=(C base).ex;rw[hmg] at h1;cases h1;obtain ⟨oc,od,_,_,_,_,_,_,osl,_,lk,_⟩:=F.ex;rw[lk'] at lk;cases lk;exact h4
section
variable {js:List (Option Nat)} {g:TG} {tt:TT} {te:TE} {σ:St} {H:Hp} {Q:VK}
end
end L2
namespace L2
open PySem PySem.Spec PySem.Calls PySem.W PyProof.Rows
structure XCls (K:Frag) (C:Addr):Prop where
 ga:findIn K (.ref C) "__getattribute__"=some (some (.builtin "BaseException.__getattribute__"))
 gn:findIn K (.ref C) "__getattr__"=some none
 cl:findIn K (.ref C) "__class__"=some (some (.builtin "object.__class__"))
 sb:subIn K (.ref C) (.type "BaseException")=some true
 so:subIn K (.ref C) (.type "object")=some true
 is:(clsIn K C).isSome=true
 ex:excIn K C [.type "ValueError",.type "Exception",.type "BaseException",.type "object"] "ValueError.__new__"=true
section
variable {prog:Program} {w:World} {A:Around} {E:Value->Shared->Prop} {h:Heap} {g:Array GenState} {d:Drawn} {t:Nat} {os:OsState} {a C:Addr} {o:Obj} {K:Frag}
def XAt (a C:Addr) (h:Heap):Prop:=∃o,h.get? a=some o/\o.cls=.ref C
end
structure FlyU (P:Program) (w:World) (base:Heap) (l:List Env) (H H':Hp) (h B h':Heap):Prop where
 st:base.StaysIn B
 al:∀b o,h.get? b=some o->b∉frs l->∃o',B.get? b=some o'
 kp:∀b o,h.get? b=some o->H b=none->b∉frs l->B.get? b=some o
 tr:∀b u,H' b=some u->∃o,B.get? b=some o
 un:Un (frs l) [] H H' h h'
 ok:HOk P w H' h'
def CXF (P:Program) (w:World) (base:Heap):CXT:=fun outer H s E e s'=>
 ∃(ea:Addr) (cls a0:Value) (H':Hp) (B:Heap),e=.ref ea/\s'.os=s.os/\AllBare s'.gens/\FlyU P w base outer H H' s.heap B s'.heap/\Heap.FlyingW B outer ea cls a0 s'.heap/\E cls none H'
theorem zgU {h base:Heap} {l:List Env} (f:h.FunFrames base l) {b:Addr} (hb:b∈frs l):base.get? b=none/\∃o,h.get? b=some o/\∀vs,o.data≠.fields vs:=f.mem hb
theorem FlyU.step {P:Program} {w:World} {base:Heap} {l:List Env} {H H':Hp} {h B h1 h2:Heap} (F:FlyU P w base l H H' h B h1) (s1:B.StaysIn h1) (s2:B.StaysIn h2) (up:h1.UpToSlots h2) (fr:h1.FunFrames B l) :
  FlyU P w base l H H' h B h2:=by
 refine ⟨F.st,F.al,F.kp,F.tr,⟨fun b o e n hb _=>s2 b o (F.kp b o e n hb),fun b o e n hb hx=>?_,F.un.free,fun b o e hx=>?_,F.un.tups,F.un.frzs,F.un.tbls⟩,fun a o e=>?_⟩
 .obtain ⟨sl,e1⟩:=F.un.slot b o e n hb hx;obtain ⟨_,o',e2,nf⟩:=zgU fr hb;rw[e1] at e2;cases e2;obtain ⟨sl',e3⟩:=up b _ e1 nf;exact ⟨sl',e3⟩
 .by_cases hb:b∈frs l
  .obtain ⟨_,o',e2,nf⟩:=zgU fr hb;obtain ⟨sl',e3⟩:=up b _ e2 nf;exact ⟨_,e3⟩
  .obtain ⟨o',e'⟩:=F.al b o e hb;exact ⟨o',s2 b o' e'⟩
 .refine (F.ok a o e).stay (fun b u hb q=>?_) (fun _ q=>q) fun _ _ q=>q
  have ht:∃v,H' b=some v:=by
   rcases hb with rfl | hb
   .exact ⟨o,e⟩
   .exact ⟨_,hb⟩
  obtain ⟨v,hv⟩:=ht;obtain ⟨o',e'⟩:=F.tr b v hv;have z:=s1 b o' e';rw[q] at z;cases z;exact s2 b u e'
section
variable {X:Cx} {pins:List (Addr×Obj)} {σ:St} {H:Hp} {s:Shared}
def XeIs (X:Cx) (E:XK):Prop:=X.xe=fun e s'=>wpAny (model X.prog X.w) X.A (leaving X.env e) (fun _ s''=>CXF X.prog X.w X.base X.outer X.H₀ X.s₀ E e s'') (fun e' s''=>CXF X.prog X.w X.base X.outer X.H₀ X.s₀ E e' s'') s'
theorem zkj {E:XK} (hs:X.stack=X.env::X.outer) (hf:X.env.frame=some X.env.locals) (hx:X.ex=[]) (xe:XeIs X E):zhT (CXF X.prog X.w X.base) X E:=by
 intro pins σ H s e s' I h;obtain ⟨ea,cls,a0,H',B,rfl,os,ba,F,fl,q⟩:=h;unfold XeIs at xe;rw[xe];rw[hs] at fl F;refine wpAny_leaves_onW (by rw[I.ok.frames,hs]) hf fl fun h' f1 f2=>?_
 refine ⟨ea,cls,a0,H',B,rfl,os.trans I.os,ba, ?_,f1,q⟩;have nx:∀b:Addr,b∉X.ex:=fun b z=>by rw[hx] at z;cases z
 have nofr:∀b o,X.s₀.heap.get? b=some o->b∉frs X.outer->b∉frs (X.env::X.outer):=fun b o e hb hb'=>by
  rw[<-hs] at hb';rcases List.mem_cons.mp (I.stkSub b hb') with z | z
  .exact absurd (z ▸ Heap.lt_size e) (Nat.not_lt.mpr I.ok.above)
  .exact hb z
 have G:=F.step fl.1 f1.1 f2 fl.2.2.1;have base:Un X.fs [] X.H₀ H X.s₀.heap s.heap:=by have q:=I.base;rw[hx] at q;exact q
 have sub:∀b∈X.fs,b∈frs (X.env::X.outer):=fun b hb=>by
  obtain ⟨v,hv,z⟩:=List.mem_filterMap.mp hb;exact List.mem_filterMap.mpr ⟨v,List.mem_cons_of_mem _ hv,z⟩
 have all:Un (frs (X.env::X.outer)) [] X.H₀ H' X.s₀.heap h':=(base.mono sub fun _ z=>z).trans G.un;refine ⟨F.st,fun b o e hb=>?_,fun b o e n hb=>?_,F.tr,⟨fun b o e n hb hx'=>all.keep b o e n (nofr b o e hb) hx',fun b o e n hb hx'=>all.slot b o e n (sub b hb) hx',all.free,all.there,all.tups,all.frzs,all.tbls⟩,G.ok⟩
 .obtain ⟨o',e'⟩:=base.there b o e (by simp);exact F.al b o' e' (nofr b o e hb)
 .exact F.kp b o (base.keep b o e n hb (by simp)) (base.free b o e n (by simp)) (nofr b o e hb)
end
section
variable {X:Cx}
end
section
variable {X:Cx} {pins:List (Addr×Obj)} {σ:St} {H:Hp} {s:Shared}
end
section
variable {X:Cx}
structure zlI (P:Program) (w:World) (K:PySem.W.Frag) (mg:Str->Option Value) (base:Heap) (x:Str) (ps:List Str) (k:Nat) (sp:Sp):Prop where
 ex:∃(f:Addr) (fd:FuncData),mg x=some (.ref f)/\PySem.W.keepIn K (.ref f)=true/\Binds K fd ps []/\FnOk P w K mg base (CXF P w base) k f fd ps sp
end
def ItZ (l1 l2:Addr):It:=
  ⟨fun i H=>∃xs x ys y,H l1=some (.lst xs)/\xs[i]? = some x/\H l2=some (.lst ys)/\ys[i]? = some y,
   fun i H v H'=>∃t x y,v=.ref t/\H t=none/\H'=upd H t (.tup [x,y])/\(∀xs,H l1=some (.lst xs)->xs[i]? = some x)/\∀ys,H l2=some (.lst ys)->ys[i]? = some y,
   fun i H=>∃xs ys,H l1=some (.lst xs)/\H l2=some (.lst ys)/\(xs.length<=i\/ys.length<=i)⟩
structure ZA (z TI TO i1 i2:Addr):Prop where
 TIz:TI≠z
 TOz:TO≠z
 i1z:i1≠z
 i2z:i2≠z
 TITO:TI≠TO
 TIi1:TI≠i1
 TIi2:TI≠i2
 TOi1:TO≠i1
 TOi2:TO≠i2
 i12:i1≠i2
theorem ZA.apart {z TI TO i1 i2 l1 l2:Addr} (D:ZA z TI TO i1 i2) {H:Hp} {o1 o2:HO} (h1:H l1=some o1) (h2:H l2=some o2) (hf:∀b∈[z,TI,TO,i1,i2],H b=none):ZipApart z TI TO i1 i2 l1 l2:=
 ⟨D.TIz,D.TOz,D.i1z,D.i2z,D.TITO,D.TIi1,D.TIi2,D.TOi1,D.TOi2,D.i12,zaC h1 (hf _ (by simp)),zaC h1 (hf _ (by simp)),zaC h1 (hf _ (by simp)),zaC h1 (hf _ (by simp)),
  zaC h2 (hf _ (by simp)),zaC h2 (hf _ (by simp)),zaC h2 (hf _ (by simp)),zaC h2 (hf _ (by simp))⟩
theorem zse {P:Program} {w:World} {K:PySem.W.Frag} {elts:List Expr} {k:Nat} {tp:Pos} (l1 l2 z TI TO i1 i2:Addr) (D:ZA z TI TO i1 i2) :
  Turn P w K (.Tuple elts k tp) (ItZ l1 l2) [z,TI,TO,i1,i2] z (fun i h=>IsZip h z TI TO .none/\IsPair h TI (.ref i1) (.ref i2)/\(∃a b,IsPair h TO a b)/\h.IsListIter i1 l1 i/\h.IsListIter i2 l2 i) where
 mem:=by simp
 obj:=fun i h st b hb=>by
  obtain ⟨hz,hTI,⟨a,c,hTO⟩,⟨o1,ho1,hc1,hd1⟩,⟨o2,ho2,hc2,hd2⟩⟩:=st;simp only[List.mem_cons,List.not_mem_nil,or_false] at hb;rcases hb with rfl | rfl | rfl | rfl | rfl
  .exact ⟨_,hz,fun v z=>by cases z⟩
  .exact ⟨_,hTI,fun v z=>by cases z⟩
  .exact ⟨_,hTO,fun v z=>by cases z⟩
  .exact ⟨_,ho1,fun v z=>by rw[hd1] at z;cases z⟩
  .exact ⟨_,ho2,fun v z=>by rw[hd2] at z;cases z⟩
 keep:=fun i h h' st kk=>by
  obtain ⟨hz,hTI,⟨a,c,hTO⟩,h1,h2⟩:=st;exact ⟨kk z (by simp) _ hz,kk TI (by simp) _ hTI,⟨a,c,kk TO (by simp) _ hTO⟩,h1.at fun o q=>kk i1 (by simp) o q,h2.at fun o q=>kk i2 (by simp) o q⟩
 item:=by
  intro X hP hw hK hc i pins s σ H E I hf st hg;subst hP hw hK;obtain ⟨hz,hTI,⟨a,c,hTO⟩,h1,h2⟩:=st;obtain ⟨xs,x,ys,y,hq1,hx,hq2,hy⟩:=hg;obtain ⟨its1,rv1,p1,hz1⟩:=I.list (SqL.of hq1);obtain ⟨its2,rv2,p2,hz2⟩:=I.list (SqL.of hq2);obtain ⟨u1,hu1,ru1⟩:=rv1.get hx;obtain ⟨u2,hu2,ru2⟩:=rv2.get hy;have DA:=D.apart hq1 hq2 (fun b hb=>(hf b hb).1);refine wpAny_pyNext_zip_item DA hz hTI hTO h1 h2 p1.isList p2.isList (x:=u1) (y:=u2) (by simpa using hu1) (by simpa using hu2) fun h' a1 a2 a3 a4 a5 a6 hk=>?_
  refine ⟨_,rfl,wpAny_letOwnedTupleGo_zip a1 fun h'' hz'' hs''=>?_⟩;have hfresh:H s.heap.objs.size=none:=I.hok.fresh (Nat.le_refl _);have zlt:z < s.heap.objs.size:=Heap.lt_size hz;have kk:∀b o,b≠z->b≠TO->b≠i1->b≠i2->s.heap.get? b=some o->h''.get? b=some o:=fun b o n1 n2 n3 n4 q=>(hs''.2 b n1).trans (hk b o n1 n2 n3 n4 q)
  have hT'':h''.get? s.heap.objs.size=some { cls:=.type "tuple",data:=.seq #[u1,u2] }:=(hs''.2 _ (Nat.ne_of_gt zlt)).trans a5;have nf:∀b u',H b=some u'->∀c∈[z,TI,TO,i1,i2],b≠c:=fun b u' q c hc e=>by rw[e,(hf c hc).1] at q;cases q
  have nc:∀b,b∉[z,TI,TO,i1,i2]->b≠z/\b≠TO/\b≠i1/\b≠i2:=fun b hb=>⟨fun e=>hb (by simp[e]),fun e=>hb (by simp[e]),fun e=>hb (by simp[e]),fun e=>hb (by simp[e])⟩
  have J:Inv X pins σ (upd H s.heap.objs.size (.tup [x,y])) { s with heap:=h'',toks:=s.toks }:=by
   refine I.step (h':=h'') (g':=s.gens) (d':=s.drawn) (t':=s.toks) (ch:=[z,TI,TO,i1,i2]) (fun b hb=>?_) (fun b o _ _ hcn q _=>kk b o (nc b hcn).1 (nc b hcn).2.1 (nc b hcn).2.2.1 (nc b hcn).2.2.2 q)
    (fun b o _ _ hcn q _=>⟨o.slots,kk b o (nc b hcn).1 (nc b hcn).2.1 (nc b hcn).2.2.1 (nc b hcn).2.2.2 q⟩) (fun b o _ q nn=>by rw[zaJ (Nat.ne_of_lt (Heap.lt_size q))];exact nn)
    (fun b o hcn q=>⟨o,kk b o (nc b hcn).1 (nc b hcn).2.1 (nc b hcn).2.2.1 (nc b hcn).2.2.2 q⟩) (fun b ys q=>by rw[zaJ (zaC q hfresh)];exact q) (fun b o u' q=>by rw[zaJ (zaC q hfresh)];exact q)
    (fun b ps q=>⟨#[],by rw[zaJ (zaC q hfresh),q];simp⟩) (fun m hm=>?_) ?_ I.bare
   .obtain ⟨f0,f1,f2,f3,f4,f5⟩:=hf b hb;exact ⟨f3,f1,f4,f5⟩
   .obtain ⟨o,es,ep,hoL,r⟩:=hm;exact ⟨o,es,ep,kk _ o (fun e=>(hf z (by simp)).2.1 e.symm) (fun e=>(hf TO (by simp)).2.1 e.symm) (fun e=>(hf i1 (by simp)).2.1 e.symm) (fun e=>(hf i2 (by simp)).2.1 e.symm) hoL,r⟩
   .intro b u' q
    by_cases hb:b=s.heap.objs.size
    .subst hb;rw[zbx] at q;cases q;exact ⟨by show 2<=sizeLine;decide,[u1,u2],.cons ru1 (.cons ru2 .nil),⟨_,hT'',rfl,_,rfl⟩⟩
    .rw[zaJ hb] at q;refine (I.hok b u' q).stay (fun c v hcc qq=>?_) (fun c qq=>by rw[zaJ (zaC qq hfresh)];exact qq) fun c ys qq=>by rw[zaJ (zaC qq hfresh)];exact qq
     have nn:∀e∈[z,TI,TO,i1,i2],c≠e:=by
      rcases hcc with e | e
      .rw[e];exact nf b u' q
      .exact nf c _ e
     exact kk c v (nn _ (by simp)) (nn _ (by simp)) (nn _ (by simp)) (nn _ (by simp)) qq
  have up:∀b o,b≠z->h'.get? b=some o->h''.get? b=some o:=fun b o n q=>(hs''.2 b n).trans q
  refine ⟨.ref s.heap.objs.size,_,J,rfl,⟨_,x,y,rfl,hfresh,rfl,fun zs hy'=>by rw[hq1] at hy';cases hy';exact hx,fun zs hy'=>by rw[hq2] at hy';cases hy';exact hy⟩,
   ⟨hz'',up _ _ D.TIz (hk _ _ D.TIz D.TITO D.TIi1 D.TIi2 hTI),⟨_,_,up _ _ D.TOz a2⟩,a3.at fun o q=>up _ o D.i1z q,a4.at fun o q=>up _ o D.i2z q⟩,fun b hb=>?_⟩
  rw[zaJ]
  .exact (hf b hb).1
  .obtain ⟨o1,ho1,_⟩:=h1;obtain ⟨o2,ho2,_⟩:=h2;simp only[List.mem_cons,List.not_mem_nil,or_false] at hb;rcases hb with rfl | rfl | rfl | rfl | rfl
   .exact Nat.ne_of_lt zlt
   .exact Nat.ne_of_lt (Heap.lt_size hTI)
   .exact Nat.ne_of_lt (Heap.lt_size hTO)
   .exact Nat.ne_of_lt (Heap.lt_size ho1)
   .exact Nat.ne_of_lt (Heap.lt_size ho2)
 done:=by
  intro X hP hw hK hc i pins s σ H E I hf st hg;subst hP hw hK;obtain ⟨hz,hTI,⟨a,c,hTO⟩,h1,h2⟩:=st;obtain ⟨xs,ys,hq1,hq2,hx⟩:=hg;obtain ⟨its1,rv1,p1,hz1⟩:=I.list (SqL.of hq1);obtain ⟨its2,rv2,p2,hz2⟩:=I.list (SqL.of hq2);have hl1:=rv1.length;have hl2:=rv2.length;have DA:=D.apart hq1 hq2 (fun b hb=>(hf b hb).1);refine wpAny_pyNext_zip_end (I.ok.hd hc) DA hz hTI hTO h1 h2 p1.isList p2.isList (by simp;omega) fun h' kk=>⟨rfl, ?_⟩
  have nf:∀b u',H b=some u'->∀c∈[z,TI,TO,i1,i2],b≠c:=fun b u' q c hc e=>by rw[e,(hf c hc).1] at q;cases q
  have nc:∀b,b∉[z,TI,TO,i1,i2]->b≠z/\b≠TO/\b≠i1/\b≠i2:=fun b hb=>⟨fun e=>hb (by simp[e]),fun e=>hb (by simp[e]),fun e=>hb (by simp[e]),fun e=>hb (by simp[e])⟩
  refine I.step (h':=h') (g':=s.gens) (d':=s.drawn) (t':=s.toks) (ch:=[z,TI,TO,i1,i2]) (fun b hb=>?_) (fun b o _ _ hcn q _=>kk b o (nc b hcn).1 (nc b hcn).2.1 (nc b hcn).2.2.1 (nc b hcn).2.2.2 q)
   (fun b o _ _ hcn q _=>⟨o.slots,kk b o (nc b hcn).1 (nc b hcn).2.1 (nc b hcn).2.2.1 (nc b hcn).2.2.2 q⟩) (fun b o _ q nn=>nn)
   (fun b o hcn q=>⟨o,kk b o (nc b hcn).1 (nc b hcn).2.1 (nc b hcn).2.2.1 (nc b hcn).2.2.2 q⟩) (fun b ys q=>q) (fun b o u' q=>q)
   (fun b ps q=>⟨#[],by rw[q];simp⟩) (fun m hm=>?_) (fun b u' q=>?_) I.bare
  .obtain ⟨f0,f1,f2,f3,f4,f5⟩:=hf b hb;exact ⟨f3,f1,f4,f5⟩
  .obtain ⟨o,es,ep,hoL,r⟩:=hm;exact ⟨o,es,ep,kk _ o (fun e=>(hf z (by simp)).2.1 e.symm) (fun e=>(hf TO (by simp)).2.1 e.symm) (fun e=>(hf i1 (by simp)).2.1 e.symm) (fun e=>(hf i2 (by simp)).2.1 e.symm) hoL,r⟩
  .refine (I.hok b u' q).stay (fun c v hcc qq=>?_) (fun c qq=>qq) fun c ys qq=>qq
   have nn:∀e∈[z,TI,TO,i1,i2],c≠e:=by
    rcases hcc with e | e
    .rw[e];exact nf b u' q
    .exact nf c _ e
   exact kk c v (nn _ (by simp)) (nn _ (by simp)) (nn _ (by simp)) (nn _ (by simp)) qq
 self:=fun _ _ _ _ _ st h=>wpAny_pyIter_zip st.1 h
section
variable {X:Cx}
def iZ (ta:TA):TI:=fun σ H R=>ta σ H fun vs H1=>∃l1 l2 xs ys,vs=[.ref l1,.ref l2]/\H1 l1=some (.lst xs)/\H1 l2=some (.lst ys)/\R (ItZ l1 l2) H1
theorem zrl {a b:Expr} {ta:TA} {p pos:Pos} {elts:List Expr} {k:Nat} {tp:Pos} (hg:Gl X "zip") (hm:X.mg "zip"=none) (ha:PA X [a,b] ta) (hs:starEach [a,b] X.env=(false,eval a X.env)::starEach [b] X.env:=by rfl) (hpl:(backTo pos (starEach [b] X.env)).any (·.1)=false:=by rfl) :
  PI X (.Tuple elts k tp) (.Call (.Name "zip" p) [a,b] [] pos) (iZ ta):=by
 intro pins s σ H R I h;refine Call_ (zgR I hg hm boot_zip (PyProof.Rows.callWith_type1 (thn (ha pos pins s σ H _ I h) fun us s1 ⟨vs,H1,I1,r1,q1⟩=>?_) hs hpl));obtain ⟨l1,l2,xs,ys,e,hq1,hq2,q⟩:=q1;subst e;obtain ⟨u,u',rfl,ru,ru'⟩:=zqT r1;cases ru
 cases ru'
 obtain ⟨its1,rv1,p1,hz1⟩:=I1.list (SqL.of hq1);obtain ⟨its2,rv2,p2,hz2⟩:=I1.list (SqL.of hq2);refine call_zip_2 p1.isList p2.isList fun h' z1 z2 z3 z4 z5 hsz hk=>?_
 have I2:Inv X pins σ H1 { s1 with heap:=h' }:=I1.kept (t':=s1.toks) hk;refine wpAny_pyIter_zip (s:={ s1 with heap:=h' }) z1 ?_;have D:ZA (s1.heap.objs.size+4) (s1.heap.objs.size+2) (s1.heap.objs.size+3) s1.heap.objs.size (s1.heap.objs.size+1):=by constructor<;>(intro e;have e':(_:Nat)=_:=e;omega)
 refine ⟨s1.heap.objs.size+4,[s1.heap.objs.size+4,s1.heap.objs.size+2,s1.heap.objs.size+3,s1.heap.objs.size,s1.heap.objs.size+1],_,ItZ l1 l2,H1,rfl,I2,zse l1 l2 _ _ _ _ _ D,⟨z1,z2,⟨_,_,z3⟩,z4,z5⟩,fun b hb=>?_,q⟩;have hge:s1.heap.objs.size<=b:=by
  simp only[List.mem_cons,List.not_mem_nil,or_false] at hb;rcases hb with rfl | rfl | rfl | rfl | rfl
  .exact Nat.le_add_right _ _
  .exact Nat.le_add_right _ _
  .exact Nat.le_add_right _ _
  .exact Nat.le_refl _
  .exact Nat.le_add_right _ _
 exact I1.fpOk hge (I1.hok.fresh hge)
end
section
variable {js:List (Option Nat)} {g:TG} {tt:TT} {te:TE} {σ:St} {H:Hp} {Q:VK}
end
section
variable {X:Cx} {pins:List (Addr×Obj)} {σ:St} {H:Hp} {s:Shared}
end
theorem zkp {P:Program} {w:World} {K:PySem.W.Frag} {mg:Str->Option Value} {base:Heap} {x:Str} {st:Stmt} {N ps:List Str} {k:Nat} {sp:Sp} (d:∃f fd,Fun K x x st f fd/\mg x=some (.ref f))
  (hb:∀(kV doc pm:Value) (an:Option Addr) (cdv ct:Value) (us:List Value),us.length=ps.length->bindArgs (PySem.W.fnOf x x (zdu st) (zch st) (zaf st) .none kV doc pm an cdv ct) ⟨us,[]⟩=pure (ps.zip us))
  (S:zak N ps (zaf st)) (len:∀vs H Q E,sp vs H Q E->vs.length=ps.length)
  (hbody:∀(f:Addr) (cdv:Value) (A:Around) (outer:List Env) (s:Shared) (H:Hp) (vs:List V) (Q:VK) (E:XK),Room k (A.deeper (envOfC x (zaf st) s.heap.objs.size f cdv))->sp vs H Q E->
   ∃t,PSs (cxOf (CXF P w base) P w K mg base N x (zaf st) f cdv A outer s H E) (zch st) t/\t { nx:=fun _ H'=>Q .non H',rt:=Q } (start N vs) H):zlI P w K mg base x ps (k+1) sp:=by
 obtain ⟨f,fd,F,hm⟩:=d;refine ⟨f,fd,hm,F.kp,F.binds hb, ?_⟩;obtain ⟨oc,od,kV,doc,pm,an,cdv,ct,osl,rfl,lk,hcd⟩:=F.ex;exact zsa lk hcd S len fun A outer s H vs Q E hr hsp=>hbody f cdv A outer s H vs Q E hr hsp
def xOk (K:Frag) (top x:Str) (others:List Str):Bool:=match nsIn K mainGlobals x with
 | some (some (.ref C))=>
  (findIn K (.ref C) "__getattribute__"==some (some (.builtin "BaseException.__getattribute__")))&&(findIn K (.ref C) "__getattr__"==some none)&&(findIn K (.ref C) "__class__"==some (some (.builtin "object.__class__"))) &&
  (subIn K (.ref C) (.type "BaseException")==some true)&&(subIn K (.ref C) (.type "object")==some true)&&(clsIn K C).isSome&&excIn K C [.type "ValueError",.type "Exception",.type "BaseException",.type "object"] "ValueError.__new__" &&
  (match nsIn K mainGlobals top with | some (some (.ref R))=>exmOne K (.ref C) (.ref R)==some true | _=>false)&&(kitOne K (.ref C) (.type "ValueError")==some true) &&
  others.all (fun y=>match nsIn K mainGlobals y with | some (some (.ref D))=>kitOne K (.ref C) (.ref D)==some (y==x) | _=>false)
 | _=>false
end L2
namespace L2
open PySem PySem.W
end L2
namespace L2
open PySem
section
variable {X:Cx} {st:Stmt} {l:List Stmt} {t u:TS}
end
end L2
namespace L2
open PySem PySem.W PySem.Calls PyProof.Rows
def hdS (w:World) (os:OsState):Shared:=⟨boot_heap w.params,Array.mk [],boot_drawn,boot_toks,os⟩
def hdF {α β:Type} (run:(String->Option PySem.Builtin)->Program->World->Nat->Option Value->Nat->Shared->Thread->Option Shared) (tt:String->Option PySem.Builtin) (im:List Stmt->List Str)
  (sn:Program->List Str->List Str->(Shared->Bool)->Bool->Shared->α) (p q:Program) (loose:List Str) (Xt:Shared->Bool) (Yf:Shared->β) (N:Nat) (w:World) (os:OsState):Option (Bool×α×β):=
 (run tt p w 11 ((boot_heap w.params).nsMap mainGlobals "__annotations__") N (hdS w os) (topStub p)).map fun s=>((staticsOk (im p.main.body) (hdS w os).heap s.heap&&namesBound p s.heap&&gensDone s&&laidKept (hdS w os).heap s.heap),sn q loose (im p.main.body) Xt true s,Yf s)
theorem zop (P:Params):(((boot_heap P).isNs mainGlobals&&(Array.mk []:Array GenState).size==0,(boot_heap P).objs.size):Bool×Nat)=(true,11):=by kernel_rfl
theorem zmK {β:Type} {p q:Program} {loose:List Str} {Xt:Shared->Bool} {Yf:Shared->β} {Ya:World->β} {N:Nat} (hN:Nat.ble 600 N=true)
  (e:opening p=plainProg p.main.scope.names) (f:∀s,fenceModules? p s=some s)
  (h:∀w os,hdF topRun treeTable importedModules openSeen p q loose Xt Yf N w os=some (true,openGood q loose,Ya w)):LeftO p q loose Xt Yf Ya N:=fun w=>by
 obtain ⟨⟨h0,gs,d,k,os⟩,e1,e'⟩:=Option.map_eq_some_iff.mp (boot_open e hN f w);obtain ⟨rfl,rfl,rfl,rfl⟩:h0=boot_heap w.params/\gs=Array.mk []/\d=boot_drawn/\k=boot_toks:=by simpa using e'
 obtain ⟨s,r,x⟩:=Option.map_eq_some_iff.mp (h w os);obtain ⟨x1,x2⟩:=Prod.mk.inj x;have z:=zop w.params;obtain ⟨z1,z2⟩:=Prod.mk.inj z;have t:topFrom treeTable p w N (hdS w os)=some s:=by
  unfold topFrom;have z1':((hdS w os).heap.isNs mainGlobals&&(hdS w os).gens.size==0)=true:=z1;have z2':(hdS w os).heap.objs.size=11:=z2;have z3':(hdS w os).heap.nsMap mainGlobals "__annotations__"=(boot_heap w.params).nsMap mainGlobals "__annotations__":=rfl;rw[z1',z2',z3',r]
  show (match staticsOk (importedModules p.main.body) (hdS w os).heap s.heap&&namesBound p s.heap&&gensDone s&&laidKept (hdS w os).heap s.heap with | true=>_ | false=>_)=_
  rw[x1]
 unfold openEnds;rw[e1]
 show (topFrom treeTable p w N (hdS w os)).map _=_
 rw[t];exact congrArg some x2
def ze2:Nat->List Obj->Frag
 | _,[]=>[]
 | n,o::r=>match o with
  | ⟨_,_,.freed,_⟩=>ze2 (n+1) r
  | o=>(n,o)::ze2 (n+1) r
def zkC (h:Heap):Frag:=ze2 0 h.objs.toList
theorem zeB:∀(l:List Obj) (n a:Nat) (o:Obj),(ze2 n l).lookup a=some o->n<=a/\l[a - n]? = some o/\∀c d s,o≠⟨c,d,.freed,s⟩
 | [],_,_,_,h=>nomatch h
 | x::r,n,a,o,h=>by
  unfold ze2 at h;split at h
  .obtain ⟨h1,h2,h3⟩:=zeB r (n+1) a o h;refine ⟨by omega, ?_,h3⟩;rw[show a - n=(a - (n+1))+1 by omega];exact h2
  .rename_i hne;rw[List.lookup_cons] at h;split at h
   .rename_i q;obtain rfl:a=n:=by simpa using q
    cases h;exact ⟨Nat.le_refl _,by simp,fun c d s e=>hne c d s e⟩
   .obtain ⟨h1,h2,h3⟩:=zeB r (n+1) a o h;refine ⟨by omega, ?_,h3⟩;rw[show a - n=(a - (n+1))+1 by omega];exact h2
theorem zls (h:Heap):(zkC h).In h:=fun a o e=>by
 obtain ⟨_,h2,h3⟩:=zeB _ _ _ _ e;have h4:h.objs[a]? = some o:=by simpa using h2
 unfold Heap.get?;rw[h4];obtain ⟨c,d,x,s⟩:=o
 cases x<;>first | rfl | exact absurd rfl (h3 _ _ _)
def zlO (v:Value) (n:Str):Bool:=match v with | .str s _=>Fast.sEq s n | _=>false
theorem zhp (v:Value) (n:Str):v.isStr n=zlO v n:=by
 cases v with
 | str s t=>
  show (s==n)=Fast.sEq s n
  cases h:Fast.sEq s n with
  | true=>exact beq_iff_eq.mpr (Fast.sEq_iff.mp h)
  | false=>exact beq_eq_false_iff_ne.mpr fun e=>by rw[Fast.sEq_iff.mpr e] at h;cases h
 | _=>rfl
def nsF (K:Frag) (ns:Addr) (name:Str):Option (Option Value):=match K.lookup ns with
 | some ⟨_,_,.dict es _,_⟩=>(match es.toList.find? (fun e=>zlO e.key name) with
   | some e=>some (some e.val)
   | none=>if es.toList.any (·.refKey) then none else some none)
 | _=>none
theorem zly (K:Frag) (ns:Addr) (name:Str):nsIn K ns name=nsF K ns name:=by
 unfold nsIn nsF;rw[show (fun e:DictEntry=>zlO e.key name)=fun e=>e.key.isStr name from funext fun e=>(zhp _ _).symm];rfl
def zfc (s:Stmt):Str:=match s with
 | .FunctionDef n _ _ _ _ _ _ _ _ _=>n
 | _=>⟨#[]⟩
def zrr (s:Stmt):Pos:=match s with
 | .FunctionDef _ _ _ _ _ _ _ _ _ p=>p
 | _=>⟨0,0,0,0⟩
def zn9 (fd:FuncData):FuncData:={ fd with kwdefaults:=.none,doc:=.none,pyModule:=.none,annotations:=none,code:=.none,closureTuple:=.none }
def zsh (eq:Str->Str->Bool) (K:Frag) (cd:Value) (q:Str):Bool:=match cd with
 | .ref c=>(match K.lookup c with
   | some ⟨_,_,.fields vs,_⟩=>(match vs.toList with | _::.str n _::_=>eq n q | _=>false)
   | _=>false)
 | _=>false
theorem zpz:Fast.sEq=fun a b=>a==b:=funext fun a=>funext fun b=>(zhp (.str a 0) b).symm
theorem zmk (K:Frag) (cd:Value) (q:Str):zsh Fast.sEq K cd q=codeIn K cd q:=by rw[zpz];rfl
def zpM (K:Frag) (n:Str):Option FuncData:=match nsF K mainGlobals n with
 | some (some (.ref f))=>(match K.lookup f with
  | some ⟨_,_,.func fd,_⟩=>(match zsh Fast.sEq K fd.code n with | true=>some (zn9 fd) | false=>none)
  | _=>none)
 | _=>none
def zo0 (st:Stmt):FuncData:=fnOf (zfc st) (zfc st) (zdu st) (zch st) (zaf st) .none .none .none .none none .none .none
theorem zaM {K:Frag} {h:Heap} {mg:Str->Option Value} {n:Str} {st:Stmt} (X:K.In h) (G:h.Ns mainGlobals mg) (hn:zfc st=n) (e:zpM K (zfc st)=some (zo0 st)):∃f fd,Fun K n n st f fd/\mg n=some (.ref f):=by
 subst hn;unfold zpM at e;split at e
 .rename_i f hf;split at e
  .rename_i oc od fd osl ho;split at e
   .rename_i hc;have hc':codeIn K fd.code (zfc st)=true:=(zmk _ _ _).symm.trans hc;refine ⟨f,fd,⟨?_, ?_⟩,mg_of X G ((zly _ _ _).trans hf)⟩
    .have e':=Option.some.inj e;obtain ⟨nm,qn,pa,bo,sc,gl,cl,de,kd,dc,pm,an,cd,ct,bi⟩:=fd;unfold zn9 zo0 fnOf at e';simp only[FuncData.mk.injEq] at e';obtain ⟨rfl,rfl,rfl,rfl,rfl,rfl,rfl,rfl,-,-,-,-,-,-,rfl⟩:=e';exact ⟨oc,od,kd,dc,pm,an,cd,ct,osl,rfl,ho,hc'⟩
    .simp only[keepIn,ho]
   .cases e
  .cases e
 .cases e
def zpf (K:Frag) (n:Str):Bool:=match nsF K mainGlobals n with | some none=>true | _=>false
def zl4 (K:Frag) (n:Str):Option Int:=match nsF K mainGlobals n with | some (some (.int i _))=>some i | _=>none
theorem zeu {K:Frag} {h:Heap} {mg:Str->Option Value} {n:Str} (X:K.In h) (G:h.Ns mainGlobals mg) (e:zpf K n=true):mg n=none:=by
 unfold zpf at e;split at e
 .rename_i q;exact mg_none_of X G ((zly _ _ _).trans q)
 .cases e
theorem ze8 {K:Frag} {h:Heap} {mg:Str->Option Value} {n:Str} {i:Int} (X:K.In h) (G:h.Ns mainGlobals mg) (e:zl4 K n=some i):∃t,mg n=some (.int i t):=by
 unfold zl4 at e;split at e
 .rename_i j t q;cases e;exact ⟨t,mg_of X G ((zly _ _ _).trans q)⟩
 .cases e
abbrev ObsT:=List (Option FuncData)×List Bool×List (Option Int)×List Bool
def obs (fs:List Stmt) (bs:List Str) (cs:List Str) (xs:List (Str×Str×List Str)) (K:Frag):ObsT:=
 (fs.map fun s=>zpM K (zfc s),bs.map (zpf K),cs.map (zl4 K),xs.map fun x=>xOk K x.1 x.2.1 x.2.2)
def due (fs:List Stmt) (bs:List Str) (is:List Int) (xs:List (Str×Str×List Str)):ObsT:=(fs.map fun s=>some (zo0 s),bs.map fun _=>true,is.map some,xs.map fun _=>true)
theorem zav {A B:Type} {f g:A->B} {l:List A} (e:l.map f=l.map g) (i:Nat) {a:A} (h:l[i]? = some a):f a=g a:=by
 have:=congrArg (fun z=>z[i]?) e
 simpa [h] using this
theorem zfo {f:Str->Option Int} {l:List Str} {is:List Int} (e:l.map f=is.map some) (i:Nat) {a:Str} {x:Int} (h:l[i]? = some a) (h2:is[i]? = some x):f a=some x:=by
 have:=congrArg (fun z=>z[i]?) e
 simpa [h,h2] using this
def zgq (O:Frag->ObsT) (D:ObsT):Hook:=
 ⟨ObsT,fun s=>O (zkC s.heap),fun _=>D,fun _ h=>∃K:Frag,K.In h/\O K=D,fun _ s e=>⟨_,zls s.heap,e⟩,fun _ _ _ x k=>let ⟨K,a,b⟩:=x;⟨K,a.keeps k,b⟩⟩
theorem zmx {l:PySem.W.OpenLaw} {n k:Nat} {q:Program} {loose:List Str} {XP:(Str->Option Value)->Heap->Prop} {d:DefRec} {O:Frag->ObsT} {D:ObsT} {CX:CXT} {sp:PySem.W.Frag->Sp} {x:Str}
  (hn:l.most=some n) (hn2:n<=sizeLine) (hdf:d.params.defaults=[]) (hr:Room k callerA)
  (F:∀(w:World) (K:Frag) (mg:Str->Option Value) (fa:Addr) (h:Heap),K.In h->h.Ns mainGlobals mg->O K=D->mg d.name=some (.ref fa)->
   ∃fd:FuncData,(∀(s:Shared) (u:Value),BindsTo s fd ⟨[u],[]⟩ [(x,u)])/\
    ∀base:Heap,K.In base->base.Ns mainGlobals mg->FnOk l.prog w K mg base CX k fa fd [x] (sp K))
  (hsp:∀(K:PySem.W.Frag) (H:Hp) (a:Addr) (ns:List Int),ns.length<=n->Only H->SqL K H a (ns.map V.int)->sp K [.ref a] H (fun v _=>v=.bl true) fun _ _ _=>False)
  (hCX:∀(H:Hp) (s:Shared) (e:Value) (s':Shared),CX [] H s (fun _ _ _=>False) e s'->False) :
  PySem.W.WalkO q loose XP (zgq O D).says l.row.toRowW d [] (fun f vs=>PySem.call f vs):=by
 refine Att.ziD hn hdf fun w s₀ s₁ mg mb fa o pm cd doc a vs ns G Y ho hd hcd hmg hobj hints hlen hg=>?_
 obtain ⟨K,KX,e⟩:=Y;obtain ⟨fd,hb,hF⟩:=F w K mg fa _ KX G.T.g e hmg;exact zm0 KX G.T.g G.T.b G.T.builtins G.T.nolimit hg hobj hints (Nat.le_trans hlen hn2) hr hF hb (fun H hO hS=>hsp K H a ns hlen hO hS) fun H e s'=>hCX H s₁ e s'
end L2
namespace L2
open PySem PySem.Spec PySem.Calls PySem.W PyProof.Rows
section
variable {X:Cx}
end
section
variable {K:Frag} {mg:Str->Option Value} {top:Str} {xs ys:List Str}
end
end L2
namespace L2
open PySem PySem.W PySem.Calls PyProof.Rows
def topT (tb:String->Option Builtin) (p:Program) (w:World) (ann:Option Value):Nat->SharedT->Thread->Option SharedT
 | 0,_,_=>none
 | n+1,s,t=>match through t with
  | true=>some s
  | false=>match stepOk 11 ann t with
   | false=>none
   | true=>match stepT (denote tb) p w s t with
    | some (s',t')=>topT tb p w ann n s' t'
    | none=>none
theorem zlV {tb:String->Option Builtin} {p:Program} {w:World} {ann:Option Value}:∀{n:Nat} {s s':SharedT} {t:Thread},topT tb p w ann n s t=some s'->topRun tb p w 11 ann n s.abs t=some s'.abs
 | 0,_,_,_,h=>by cases h
 | n+1,s,s',t,h=>by
  unfold topT at h;unfold topRun
  cases he:through t with
  | true=>rw[he] at h;cases h;rfl
  | false=>
   rw[he] at h
   cases hk:stepOk 11 ann t with
   | false=>rw[hk] at h;cases h
   | true=>
    rw[hk] at h
    cases hs:stepT (denote tb) p w s t with
    | none=>rw[hs] at h;cases h
    | some r=>obtain ⟨s₂,t₂⟩:=r;rw[hs] at h;rw[stepT_spec hs];exact zlV h
def zn5:List Obj->Nat->BT->BT
 | [],_,t=>t
 | o::r,n,t=>zn5 r (n+1) (t.ins n o)
def hdST (w:World) (os:OsState):SharedT:=⟨zn5 (boot_heap w.params).objs.toList 0 .nil,11,(boot_heap w.params).life,Array.mk [],boot_drawn,boot_toks,os⟩
theorem zq7 (w:World) (os:OsState):(hdST w os).abs=hdS w os:=by
 show Shared.mk (absHeap _ 11 _) _ _ _ _=Shared.mk _ _ _ _ _
 congr 1
def hdT {α β:Type} (run:(String->Option PySem.Builtin)->Program->World->Option Value->Nat->SharedT->Thread->Option SharedT) (tt:String->Option PySem.Builtin) (im:List Stmt->List Str)
  (sn:Program->List Str->List Str->(Shared->Bool)->Bool->Shared->α) (p q:Program) (loose:List Str) (Xt:Shared->Bool) (Yf:Shared->β) (N:Nat) (w:World) (os:OsState):Option (Bool×α×β):=
 (run tt p w ((boot_heap w.params).nsMap mainGlobals "__annotations__") N (hdST w os) (topStub p)).map fun s=>((staticsOk (im p.main.body) (hdS w os).heap s.abs.heap&&namesBound p s.abs.heap&&gensDone s.abs&&laidKept (hdS w os).heap s.abs.heap),sn q loose (im p.main.body) Xt true s.abs,Yf s.abs)
theorem zrY {α β:Type} {tt:String->Option PySem.Builtin} {im:List Stmt->List Str} {sn:Program->List Str->List Str->(Shared->Bool)->Bool->Shared->α} {p q:Program} {loose:List Str} {Xt:Shared->Bool} {Yf:Shared->β} {N:Nat} {w:World} {os:OsState} {x:Bool×α×β}
  (h:hdT topT tt im sn p q loose Xt Yf N w os=some x):hdF topRun tt im sn p q loose Xt Yf N w os=some x:=by
 obtain ⟨s,r,e⟩:=Option.map_eq_some_iff.mp h;have r':=zlV r;rw[zq7] at r';unfold hdF;rw[r',<-e];rfl
end L2
lay_quick L2.topT
namespace My
open PySem L2
lay_quick PySem.Challenge.pw_tautroads_k42_whole_the_other_way_about
def QQ (p:Program):Program:=PySem.W.view p [1,2,3,4,5,6,7,9,10,11,12,13,14,15,16,17,18,19,20,21,23,24,25,26,28,29,30,31,32,34,35,36,37,39,41,42,43,44,45,46,47,49,50,51,52,53,54,55,56,58,59,60,61,62,63,64,65,66,67,68,69,70,71,72]
def lo:List Str:=["MOST_LENGTH","FAR"]
def lv:List (Str×PySem.W.WData):=[("MOST_LENGTH",PySem.W.WData.int 1000000000),("FAR",PySem.W.WData.int 40000000000)]
def Xt (p:Program) (s:Shared):Bool:=PySem.W.xlAt (QQ p) lv s&&PySem.W.recOk [] s
def stm (p:Program) (i:Nat):Stmt:=p.main.body.getD i (.Pass ⟨0,0,0,0⟩)
def fs (p:Program):List Stmt:=[stm p 58,stm p 60,stm p 59,stm p 61,stm p 62,stm p 64,stm p 65,stm p 12,stm p 13,stm p 14,stm p 23,stm p 24,stm p 26,stm p 30,stm p 29,stm p 35,stm p 36,stm p 15,stm p 17,stm p 37,stm p 25,stm p 31,stm p 32,stm p 34,stm p 55,stm p 54,stm p 56,stm p 66,stm p 45,stm p 19,stm p 18,stm p 21,stm p 67,stm p 16,stm p 39,stm p 51,stm p 52,stm p 53,stm p 42,stm p 46,stm p 47,stm p 41,stm p 43,stm p 44,stm p 68,stm p 20,stm p 69,stm p 70,stm p 63,stm p 71,stm p 72]
def bs:List Str:=["enumerate","int","len","list","max","range","reversed","sorted","sum","zip"]
def cs:List Str:=["FAR","MOST_LENGTH","MOST_PLACES","MOST_ROADS","MOST_STEPS","MOST_STOPS"]
def is:List Int:=[40000000000,1000000000,20,60,60,7]
def xs:List (Str×Str×List Str):=[]
abbrev oo (p:Program):PySem.W.Frag->L2.ObsT:=L2.obs (fs p) bs cs xs
abbrev dd (p:Program):L2.ObsT:=L2.due (fs p) bs is xs
def zrM {α:Type} (gd:Program->List Str->α) (run:(String->Option PySem.Builtin)->Program->World->Option Value->Nat->PySem.W.SharedT->Thread->Option PySem.W.SharedT) (tt:String->Option PySem.Builtin) (im:List Stmt->List Str) (sn:Program->List Str->List Str->(Shared->Bool)->Bool->Shared->α) (p:Program):Prop:=
 ∀(w:World) (os:OsState),L2.hdT run tt im sn p (QQ p) lo (Xt p) (fun s=>oo p (L2.zkC s.heap)) 6538 w os=some (true,gd (QQ p) lo,dd p)
theorem zqQ:zrM PySem.W.openGood PySem.W.Fast.tw12425933026755589441 PySem.W.Fast.tw14364793385576792824 PySem.W.Fast.tw5923862056798008813 PySem.W.Fast.tw4187177175401517315 PySem.W.Fast.tw8220309680326342906:=fun w os=>by
 unfold L2.hdT
 kernel_rfl
theorem seen:zrM PySem.W.openGood L2.topT treeTable importedModules PySem.W.openSeen PySem.Challenge.pw_tautroads_k42_whole_the_other_way_about:=by
 rw[PySem.W.Fast.te12425933026755589441,PySem.W.Fast.te14364793385576792824,PySem.W.Fast.te5923862056798008813,PySem.W.Fast.te4187177175401517315,PySem.W.Fast.te8220309680326342906];exact zqQ
theorem left:PySem.W.LeftO PySem.Challenge.pw_tautroads_k42_whole_the_other_way_about (QQ PySem.Challenge.pw_tautroads_k42_whole_the_other_way_about) lo (Xt PySem.Challenge.pw_tautroads_k42_whole_the_other_way_about) (L2.zgq (oo PySem.Challenge.pw_tautroads_k42_whole_the_other_way_about) (dd PySem.Challenge.pw_tautroads_k42_whole_the_other_way_about)).obs (L2.zgq (oo PySem.Challenge.pw_tautroads_k42_whole_the_other_way_about) (dd PySem.Challenge.pw_tautroads_k42_whole_the_other_way_about)).val 6538:=
 L2.zmK (by decide) (by kernel_rfl) (fun s=>by kernel_rfl) fun w os=>L2.zrY (seen w os)
end My
namespace L2
open PySem
set_option genInjectivity true
inductive O where
 | z
 | d (x:PyData)
 | l (xs:List O)
 | t (xs:List O)
 | x (c:Str)
 | g (o:HO)
 | q (xs:List V)
 deriving Inhabited
mutual
def fz:O->Option PyData
 | .d x=>some x
 | .l xs=>(fzs xs).map PyData.list
 | .t xs=>(fzs xs).map PyData.tuple
 | .z=>none
 | .x _=>none
 | .g _=>none
 | .q _=>none
def fzs:List O->Option (List PyData)
 | []=>some []
 | o::os=>match fz o,fzs os with
  | some a,some b=>some (a::b)
  | _,_=>none
end
theorem zrb:∀xs:List PyData,fzs (xs.map O.d)=some xs
 | []=>by simp[fzs]
 | x::xs=>by simp[fzs,fz,zrb xs]
def sub:List Nat->O->Option O
 | [],o=>some o
 | k::p,.l xs=>match xs[k]? with | some o=>sub p o | none=>none
 | k::p,.t xs=>match xs[k]? with | some o=>sub p o | none=>none
 | _::_,_=>none
def put:List Nat->O->O->O
 | [],n,_=>n
 | k::p,n,.l xs=>.l (match xs[k]? with | some o=>xs.set k (put p n o) | none=>xs)
 | k::p,n,.t xs=>.t (match xs[k]? with | some o=>xs.set k (put p n o) | none=>xs)
 | _::_,_,o=>o
abbrev Rho:=List O
inductive Rv where
 | own (o:O)
 | at (i:Nat) (p:List Nat)
 deriving Inhabited
def vw (ρ:Rho):Rv->Option O
 | .own o=>some o
 | .at i p=>match ρ[i]? with | some o=>sub p o | none=>none
def vn (ρ:Rho) (r:Rv):Option O:=match vw ρ r with | some .z=>none | o=>o
def pok (ρ:Rho) (q:Bool):Rv->Bool
 | .own _=>true
 | .at _ []=>true
 | .at i (k::p)=>q&&(vw ρ (.at i (k::p))).isSome
inductive Re (α:Type) where
 | bad
 | ok (a:α) (ρ:Rho) (q:Bool)
 | ex (c:Str) (ρ:Rho)
def Re.bind {α β:Type}:Re α->(α->Rho->Bool->Re β)->Re β
 | .bad,_=>.bad
 | .ok a ρ q,f=>f a ρ q
 | .ex c ρ,_=>.ex c ρ
@[simp] theorem Re.bind_bad {α β:Type} (f:α->Rho->Bool->Re β):Re.bind .bad f=.bad:=rfl
@[simp] theorem Re.bind_ok {α β:Type} (a:α) (ρ:Rho) (q:Bool) (f:α->Rho->Bool->Re β):Re.bind (.ok a ρ q) f=f a ρ q:=rfl
@[simp] theorem Re.bind_ex {α β:Type} (c:Str) (ρ:Rho) (f:α->Rho->Bool->Re β):Re.bind (.ex c ρ) f=.ex c ρ:=rfl
abbrev EF:=Rho->Re Rv
abbrev TF:=Rho->Re Bool
abbrev AF:=Rho->Re (List Rv)
inductive Rt where
 | bad
 | nx (ρ:Rho)
 | br (ρ:Rho)
 | ct (ρ:Rho)
 | rt (o:O) (ρ:Rho)
 | ex (c:Str) (ρ:Rho)
abbrev SF:=Rho->Rt
inductive Rc where
 | bad
 | ok (o:O) (outs:List O)
 | ex (c:Str) (outs:List O)
abbrev FC:=List O->Rc
def coe (ρ:Rho):Rv->Option (O×Rho)
 | .own o=>some (o,ρ)
 | .at i p=>match ρ[i]? with
  | none=>none
  | some oi=>match sub p oi with
   | some (.d x)=>some (.d x,ρ)
   | some (.x c)=>some (.x c,ρ)
   | some (.g o)=>some (.g o,ρ)
   | some (.q o)=>some (.q o,ρ)
   | some o=>match fz oi,fz o with
    | some xi,some x=>some (.d x,ρ.set i (.d xi))
    | _,_=>none
   | none=>none
def mov (ρ:Rho):Rv->Option (O×Rho)
 | .own o=>some (o,ρ)
 | .at i []=>match ρ[i]? with
  | some .z=>none
  | some o=>some (o,ρ.set i .z)
  | none=>none
 | .at i (k::p)=>coe ρ (.at i (k::p))
def QOk (K:PySem.W.Frag) (H:Hp) (W:Addr->Prop) (a:Addr) (xs:List V):Prop:=(Rd H a (.lst xs)/\¬W a)\/
  ∃(o:Obj) (its:Array Value) (n:Nat),K.lookup a=some o/\o.cls=.type "list"/\o.dict=none/\o.data=.seq its n/\its.size<=sizeLine/\Vals xs its.toList
theorem QOk.sq {K:PySem.W.Frag} {H:Hp} {W:Addr->Prop} {a:Addr} {xs:List V} (h:QOk K H W a xs):SqL K H a xs:=h.imp (fun z=>z.1) id
section
variable (mg:Str->Option Value) (K:PySem.W.Frag)
mutual
inductive Ow (H:Hp) (W:Addr->Prop):V->O->List Addr->Prop where
 | z (v:V):Ow H W v .z []
 | d {v:V} {x:PyData}:Dn H W v x->Ow H W v (.d x) []
 | l {a:Addr} {vs:List V} {os:List O} {As:List Addr}:H a=some (.lst vs)->Ows H W vs os As->Ow H W (.ref a) (.l os) (a::As)
 | t {a:Addr} {vs:List V} {os:List O} {As:List Addr}:¬W a->H a=some (.tup vs)->Ows H W vs os As->Ow H W (.ref a) (.t os) As
 | x {a C:Addr} {c:Str}:¬W a->H a=some (.ext (XAt a C))->XCls K C->mg c=some (.ref C)->Ow H W (.ref a) (.x c) []
 | g {a:Addr} {o:HO}:¬W a->H a=some o->Ow H W (.ref a) (.g o) []
 | q {a:Addr} {xs:List V}:QOk K H W a xs->Ow H W (.ref a) (.q xs) []
inductive Ows (H:Hp) (W:Addr->Prop):List V->List O->List Addr->Prop where
 | nil:Ows H W [] [] []
 | cons {v:V} {o:O} {vs:List V} {os:List O} {A B:List Addr}:Ow H W v o A->Ows H W vs os B->Ows H W (v::vs) (o::os) (A++B)
end
end
section
variable {mg:Str->Option Value} {K:PySem.W.Frag} {H H':Hp} {W W':Addr->Prop}
theorem Ows.length {vs:List V} {os:List O} {As:List Addr} (h:Ows mg K H W vs os As):vs.length=os.length:=
 Ows.rec (motive_1:=fun _ _ _ _=>True) (motive_2:=fun vs os _ _=>vs.length=os.length) (fun _=>trivial) (fun _=>trivial) (fun _ _ _=>trivial) (fun _ _ _ _=>trivial) (fun _ _ _ _=>trivial) (fun _ _=>trivial) (fun _=>trivial) rfl (fun _ _ _ ih=>by rw[List.length_cons,List.length_cons,ih]) h
def DMv (H:Hp) (W:Addr->Prop) (H':Hp) (W':Addr->Prop):Prop:=∀a o,H a=some o->¬W a->H' a=some o/\¬W' a
theorem Dn.on (m:DMv H W H' W') {v:V} {d:PyData} (h:Dn H W v d):Dn H' W' v d:=h.mapX m
theorem Dns.on (m:DMv H W H' W') {v:List V} {d:List PyData} (h:Dns H W v d):Dns H' W' v d:=h.mapX m
theorem DMv.q (m:DMv H W H' W') {a:Addr} {xs:List V} (h:QOk K H W a xs):QOk K H' W' a xs:=by
 rcases h with ⟨h | ⟨o,h⟩,n⟩ | h
 .exact .inl ⟨.inl (m _ _ h n).1,(m _ _ h n).2⟩
 .exact .inl ⟨.inr ⟨o,(m _ _ h n).1⟩,(m _ _ h n).2⟩
 .exact .inr h
theorem Ow.on (m:DMv H W H' W') {v:V} {o:O} {As:List Addr} (h:Ow mg K H W v o As):(∀x∈As,H' x=H x)->Ow mg K H' W' v o As:=
 Ow.rec (motive_1:=fun v o As _=>(∀x∈As,H' x=H x)->Ow mg K H' W' v o As) (motive_2:=fun v o As _=>(∀x∈As,H' x=H x)->Ows mg K H' W' v o As)
  (fun v _=>.z v) (fun h _=>.d (h.on m)) (fun h _ ih e=>.l (by rw[e _ List.mem_cons_self];exact h) (ih fun x hx=>e x (List.mem_cons_of_mem _ hx))) (fun n h _ ih e=>.t (m _ _ h n).2 (m _ _ h n).1 (ih e)) (fun n h c g _=>.x (m _ _ h n).2 (m _ _ h n).1 c g)
  (fun n h _=>.g (m _ _ h n).2 (m _ _ h n).1) (fun h _=>.q (m.q h)) (fun _=>.nil) (fun _ _ i1 i2 e=>.cons (i1 fun x hx=>e x (List.mem_append_left _ hx)) (i2 fun x hx=>e x (List.mem_append_right _ hx))) h
theorem Ows.on (m:DMv H W H' W') {v:List V} {o:List O} {As:List Addr} (h:Ows mg K H W v o As):(∀x∈As,H' x=H x)->Ows mg K H' W' v o As:=
 Ows.rec (motive_1:=fun v o As _=>(∀x∈As,H' x=H x)->Ow mg K H' W' v o As) (motive_2:=fun v o As _=>(∀x∈As,H' x=H x)->Ows mg K H' W' v o As)
  (fun v _=>.z v) (fun h _=>.d (h.on m)) (fun h _ ih e=>.l (by rw[e _ List.mem_cons_self];exact h) (ih fun x hx=>e x (List.mem_cons_of_mem _ hx))) (fun n h _ ih e=>.t (m _ _ h n).2 (m _ _ h n).1 (ih e)) (fun n h c g _=>.x (m _ _ h n).2 (m _ _ h n).1 c g)
  (fun n h _=>.g (m _ _ h n).2 (m _ _ h n).1) (fun h _=>.q (m.q h)) (fun _=>.nil) (fun _ _ i1 i2 e=>.cons (i1 fun x hx=>e x (List.mem_append_left _ hx)) (i2 fun x hx=>e x (List.mem_append_right _ hx))) h
theorem dn_l {a:Addr} {vs:List V} {os:List O} {As:List Addr} (h:H a=some (.lst vs)) (_:Ows mg K H W vs os As) (ih:∀x,fzs os=some x->(∀x∈As,¬W' x)->Dns H W' vs x) (x:PyData) (e:fz (.l os)=some x) (n:∀x∈a::As,¬W' x):Dn H W' (.ref a) x:=by
 rw[fz] at e
 cases q:fzs os with
 | none=>rw[q] at e;cases e
 | some xs=>
  rw[q] at e;cases e;exact .lst (n _ List.mem_cons_self) h (ih xs q fun x hx=>n x (List.mem_cons_of_mem _ hx))
theorem dn_t (s:∀a,W' a->W a) {a:Addr} {vs:List V} {os:List O} {As:List Addr} (k:¬W a) (h:H a=some (.tup vs)) (_:Ows mg K H W vs os As) (ih:∀x,fzs os=some x->(∀x∈As,¬W' x)->Dns H W' vs x) (x:PyData) (e:fz (.t os)=some x) (n:∀x∈As,¬W' x):Dn H W' (.ref a) x:=by
 rw[fz] at e
 cases q:fzs os with
 | none=>rw[q] at e;cases e
 | some xs=>
  rw[q] at e;cases e;exact .tup (fun z=>k (s _ z)) h (ih xs q n)
theorem dn_c {v:V} {o:O} {vs:List V} {os:List O} {A B:List Addr} (_:Ow mg K H W v o A) (_:Ows mg K H W vs os B) (i1:∀x,fz o=some x->(∀x∈A,¬W' x)->Dn H W' v x) (i2:∀x,fzs os=some x->(∀x∈B,¬W' x)->Dns H W' vs x) (x:List PyData) (e:fzs (o::os)=some x) (n:∀x∈A++B,¬W' x):Dns H W' (v::vs) x:=by
 rw[fzs] at e
 cases q:fz o with
 | none=>rw[q] at e;cases e
 | some y=>
  cases r:fzs os with
  | none=>rw[q,r] at e;cases e
  | some ys=>
   rw[q,r] at e;cases e;exact .cons (i1 y q fun x hx=>n x (List.mem_append_left _ hx)) (i2 ys r fun x hx=>n x (List.mem_append_right _ hx))
theorem Ow.dn (s:∀a,W' a->W a) {v:V} {o:O} {As:List Addr} {x:PyData} (h:Ow mg K H W v o As) (e:fz o=some x) (n:∀x∈As,¬W' x):Dn H W' v x:=
 Ow.rec (motive_1:=fun v o As _=>∀x,fz o=some x->(∀x∈As,¬W' x)->Dn H W' v x) (motive_2:=fun v o As _=>∀x,fzs o=some x->(∀x∈As,¬W' x)->Dns H W' v x)
  (fun v x e _=>by rw[fz] at e;cases e) (fun h x e _=>by cases e;exact h.weak s) dn_l (dn_t s) (fun _ _ _ _ x e _=>by rw[fz] at e;cases e) (fun _ _ x e _=>by rw[fz] at e;cases e) (fun _ x e _=>by rw[fz] at e;cases e)
  (fun x e _=>by rw[fzs] at e;cases e;exact .nil) dn_c h _ e n
theorem Ow.plain {v:V} {o:O} {As:List Addr} {x:PyData} (h:Ow mg K H W v o As) (e:fz o=some x):Dn H (fun _=>False) v x:=h.dn (fun _ z=>z.elim) e fun _ _ z=>z
theorem Ows.ofD:∀{vs:List V} {ds:List PyData},Dns H W vs ds->Ows mg K H W vs (ds.map O.d) []
 | _,_,.nil=>.nil
 | _,_,.cons a b=>.cons (A:=[]) (.d a) (Ows.ofD b)
theorem Ows.toD:∀{vs:List V} {ds:List PyData} {As:List Addr},Ows mg K H W vs (ds.map O.d) As->Dns H W vs ds/\As=[]
 | _,[],_,h=>by cases h;exact ⟨.nil,rfl⟩
 | _,d::ds,_,h=>by
  cases h with
  | cons a b=>
   cases a with
   | d h=>obtain ⟨q,rfl⟩:=Ows.toD b;exact ⟨.cons h q,rfl⟩
theorem Ows.get:∀{vs:List V} {os:List O} {As:List Addr} {i:Nat} {o:O},Ows mg K H W vs os As->os[i]? = some o->∃v A,vs[i]? = some v/\Ow mg K H W v o A/\A.Sublist As
 | _,_,_,_,_,.nil,e=>by simp at e
 | _,_,_,0,_,.cons a b,e=>by simp at e;subst e;exact ⟨_,_,rfl,a,List.sublist_append_left _ _⟩
 | _,_,_,i+1,o,.cons a b,e=>by
  obtain ⟨v,A,h1,h2,h3⟩:=Ows.get (i:=i) (o:=o) b (by simpa using e);exact ⟨v,A,by simpa using h1,h2,h3.trans (List.sublist_append_right _ _)⟩
theorem Ows.app {vs ws:List V} {os us:List O} {A B:List Addr} (h:Ows mg K H W vs os A) (s:Ows mg K H W ws us B):Ows mg K H W (vs++ws) (os++us) (A++B):=
 Ows.rec (motive_1:=fun _ _ _ _=>True) (motive_2:=fun vs os A _=>Ows mg K H W (vs++ws) (os++us) (A++B)) (fun _=>trivial) (fun _=>trivial) (fun _ _ _=>trivial) (fun _ _ _ _=>trivial) (fun _ _ _ _=>trivial) (fun _ _=>trivial) (fun _=>trivial) s (fun a _ _ ih=>by rw[List.append_assoc];exact .cons a ih) h
def els:O->Option (Bool×List O)
 | .d (.list ds)=>some (true,ds.map O.d)
 | .d (.tuple ds)=>some (false,ds.map O.d)
 | .l os=>some (true,os)
 | .t os=>some (false,os)
 | _=>none
theorem Ow.els {v:V} {o:O} {As:List Addr} {k:Bool} {os:List O} (h:Ow mg K H W v o As) (e:els o=some (k,os)) :
  ∃a vs A,v=.ref a/\H a=some (if k then .lst vs else .tup vs)/\Ows mg K H W vs os A/\A.Sublist As:=by
 cases h with
 | z=>cases e
 | d h=>
  cases h with
  | lst n q t=>cases e;exact ⟨_,_,_,rfl,q,.ofD t,.refl _⟩
  | tup n q t=>cases e;exact ⟨_,_,_,rfl,q,.ofD t,.refl _⟩
  | _=>cases e
 | l q t=>cases e;exact ⟨_,_,_,rfl,q,t,List.sublist_cons_self _ _⟩
 | t n q t=>cases e;exact ⟨_,_,_,rfl,q,t,.refl _⟩
 | x=>cases e
 | g=>cases e
 | q=>cases e
def lds:List O->Option (List PyData)
 | []=>some []
 | .d x::os=>(lds os).map (x::·)
 | _=>none
theorem zeE:∀xs:List PyData,lds (xs.map O.d)=some xs
 | []=>rfl
 | x::xs=>by simp[lds,zeE xs]
theorem zlv:∀{os:List O} {ds:List PyData},lds os=some ds->os=ds.map O.d
 | [],ds,e=>by cases e;rfl
 | .d x::os,ds,e=>by
  rw[lds] at e
  cases q:lds os with
  | none=>rw[q] at e;cases e
  | some xs=>rw[q] at e;cases e;rw[zlv q];rfl
 | .z::_,_,e=>by cases e
 | .l _::_,_,e=>by cases e
 | .t _::_,_,e=>by cases e
 | .x _::_,_,e=>by cases e
 | .g _::_,_,e=>by cases e
 | .q _::_,_,e=>by cases e
end
section
variable {mg:Str->Option Value} {K:PySem.W.Frag} {H H':Hp} {W W':Addr->Prop}
def VAt (H:Hp):List Nat->V->V->Prop
 | [],v,u=>v=u
 | k::p,v,u=>∃a vs w,v=.ref a/\(H a=some (.lst vs)\/H a=some (.tup vs))/\vs[k]? = some w/\VAt H p w u
theorem Ow.sub {p:List Nat}:∀{v:V} {o n:O} {As:List Addr},Ow mg K H W v o As->sub p o=some n->∃u A,VAt H p v u/\Ow mg K H W u n A/\A.Sublist As:=by
 induction p with
 | nil=>intro v o n As h e;cases e;exact ⟨_,_,rfl,h,.refl _⟩
 | cons k p ih=>
  intro v o n As h e
  cases h with
  | @l a vs os As qq tt=>
   rw[L2.sub] at e
   cases r:os[k]? with
   | none=>rw[r] at e;cases e
   | some o=>
    rw[r] at e;obtain ⟨w,A,h1,h2,h3⟩:=tt.get r;obtain ⟨u,B,g1,g2,g3⟩:=ih h2 e;exact ⟨u,B,⟨_,_,_,rfl,.inl qq,h1,g1⟩,g2,g3.trans (h3.trans (List.sublist_cons_self _ _))⟩
  | @t a vs os As nw qq tt=>
   rw[L2.sub] at e
   cases r:os[k]? with
   | none=>rw[r] at e;cases e
   | some o=>
    rw[r] at e;obtain ⟨w,A,h1,h2,h3⟩:=tt.get r;obtain ⟨u,B,g1,g2,g3⟩:=ih h2 e;exact ⟨u,B,⟨_,_,_,rfl,.inr qq,h1,g1⟩,g2,g3.trans h3⟩
  | _=>cases e
theorem VAt.inj {p:List Nat}:∀{v u w:V},VAt H p v u->VAt H p v w->u=w:=by
 induction p with
 | nil=>intro v u w h k;exact h.symm.trans k
 | cons k p ih=>
  intro v u w h1 h2;obtain ⟨a,vs,x,e,h,q,r⟩:=h1;obtain ⟨b,ws,y,e',h',q',r'⟩:=h2;rw[e] at e'
  cases e'
  have:vs=ws:=by
   rcases h with h | h<;>rcases h' with h' | h'<;>rw[h] at h'<;>cases h'<;>rfl
  subst this;rw[q] at q'
  cases q'
  exact ih r r'
theorem VAt.app:∀{p q:List Nat} {v u w:V},VAt H p v u->VAt H q u w->VAt H (p++q) v w
 | [],_,_,_,_,h,k=>by rw[show _=_ from h];exact k
 | _::p,q,_,_,_,⟨a,vs,x,e,h,g,r⟩,k=>⟨a,vs,x,e,h,g,VAt.app r k⟩
theorem Ows.swap:∀{vs:List V} {os:List O} {As:List Addr} {k:Nat} {w:V} {o n:O} {A:List Addr},Ows mg K H W vs os As->As.Nodup->os[k]? = some o->vs[k]? = some w->
  (∀B:List Addr,Ow mg K H W w o B->List.Sublist B As->∃C:List Addr,Ow mg K H' W w n C/\C.Nodup/\(∀x∈C,x∈B\/x∈A)/\∀x,x∉B->H' x=H x)->(∀x∈A,x∉As)->DMv H W H' W->
  ∃C:List Addr,Ows mg K H' W vs (os.set k n) C/\C.Nodup/\(∀x∈C,x∈As\/x∈A)/\∃B:List Addr,B.Sublist As/\∀x,x∉B->H' x=H x
 | _,_,_,_,_,_,_,_,.nil,_,e,_,_,_,_=>by simp at e
 | _,_,_,0,_,_,n,A,.cons (A:=B) (B:=D) a b,nd,e,e',f,fr,m=>by
  simp at e e';subst e e';obtain ⟨C,h1,h2,h3,h4⟩:=f B a (List.sublist_append_left _ _);have nd':=List.nodup_append.mp nd;refine ⟨C++D,.cons h1 (Ows.on m b fun x hx=>h4 x fun hb=>nd'.2.2 x hb x hx rfl),List.nodup_append.mpr ⟨h2,nd'.2.1,fun x hx y hy z=>?_⟩,fun x hx=>?_,B,List.sublist_append_left _ _,h4⟩
  .subst z;rcases h3 x hx with q | q
   .exact nd'.2.2 x q x hy rfl
   .exact fr x q (List.mem_append_right _ hy)
  .rcases List.mem_append.mp hx with q | q
   .exact (h3 x q).imp (List.mem_append_left _) id
   .exact .inl (List.mem_append_right _ q)
 | _,_,_,k+1,w,o,n,A,.cons (A:=B) (B:=D) a b,nd,e,e',f,fr,m=>by
  have nd':=List.nodup_append.mp nd;obtain ⟨C,h1,h2,h3,E,h4,h5⟩:=Ows.swap (k:=k) (w:=w) (o:=o) (n:=n) (A:=A) b nd'.2.1 (by simpa using e) (by simpa using e') (fun F hF sF=>f F hF (sF.trans (List.sublist_append_right _ _))) (fun x hx hd=>fr x hx (List.mem_append_right _ hd)) m;refine ⟨B++C,.cons (Ow.on m a fun x hx=>h5 x fun hb=>nd'.2.2 x hx x (h4.subset hb) rfl) (by simpa using h1),List.nodup_append.mpr ⟨nd'.1,h2,fun x hx y hy z=>?_⟩,fun x hx=>?_,E,h4.trans (List.sublist_append_right _ _),h5⟩
  .subst z;rcases h3 x hy with q | q
   .exact nd'.2.2 x hx x q rfl
   .exact fr x q (List.mem_append_left _ hx)
  .rcases List.mem_append.mp hx with q | q
   .exact .inl (List.mem_append_left _ q)
   .exact (h3 x q).imp (List.mem_append_right _) id
theorem Ow.put {p:List Nat}:∀{v:V} {o:O} {As:List Addr} {os os':List O} {a:Addr} {vs':List V} {A:List Addr},Ow mg K H W v o As->As.Nodup->L2.sub p o=some (.l os)->VAt H p v (.ref a)->W a->
  (∀vs B,Ows mg K H W vs os B->H a=some (.lst vs)->B.Nodup->a∉B->(∀x∈B,x∈As)->∃C,Ows mg K (upd H a (.lst vs')) W vs' os' C/\C.Nodup/\a∉C/\∀x∈C,x∈B\/x∈A)->(∀x∈A,x∉As)->
  ∃C,Ow mg K (upd H a (.lst vs')) W v (L2.put p (.l os') o) C/\C.Nodup/\(∀x∈C,x∈As\/x∈A)/\a∈As:=by
 induction p with
 | nil=>
  intro v o As os os' a vs' A h nd e qq wa f fr;cases e
  cases (show _=V.ref a from qq)
  cases h with
  | l h tt=>
   have nd':=List.nodup_cons.mp nd;obtain ⟨C,h1,h2,h3,h4⟩:=f _ _ tt h nd'.2 nd'.1 fun x hx=>List.mem_cons_of_mem _ hx
   refine ⟨_,.l zbx h1,List.nodup_cons.mpr ⟨h3,h2⟩,fun x hx=>?_,List.mem_cons_self⟩;rcases List.mem_cons.mp hx with rfl | hx
   .exact .inl List.mem_cons_self
   .exact (h4 x hx).imp (List.mem_cons_of_mem _) id
 | cons k p ih=>
  intro v o Bs os os' a vs' A h nd e qq wa f fr;obtain ⟨b',ws',w,eb,hb,hw,qq⟩:=qq;have m:DMv H W (upd H a (.lst vs')) W:=fun c ob hc nc=>⟨by rw[zaJ (fun z=>nc (by rw[z];exact wa))];exact hc,nc⟩
  cases h with
  | @l b ws us As h tt=>
   cases eb;rcases hb with hb | hb<;>rw[h] at hb<;>cases hb;rw[L2.sub] at e;rw[L2.put]
   cases r:us[k]? with
   | none=>rw[r] at e;cases e
   | some o=>
    rw[r] at e;have nd':=List.nodup_cons.mp nd;have sub1:∀{B:List Addr},Ow mg K H W w o B->B.Sublist As->∃C,Ow mg K (upd H a (.lst vs')) W w (L2.put p (.l os') o) C/\C.Nodup/\(∀x∈C,x∈B\/x∈A)/\a∈B:=fun hB sB=>
     ih hB (nd'.2.sublist sB) e qq wa (fun vs B' x1 x2 x3 x4 x5=>f vs B' x1 x2 x3 x4 fun x hx=>List.mem_cons_of_mem _ (sB.subset (x5 x hx))) (fun x hx z=>fr x hx (List.mem_cons_of_mem _ (sB.subset z)))
    obtain ⟨w',A',g1,g2,g3⟩:=tt.get r;rw[hw] at g1;cases g1;have hin:a∈As:=by
     obtain ⟨C,h1,h2,h3,h4⟩:=sub1 g2 g3;exact g3.subset h4
    obtain ⟨C,h1,h2,h3,E,h4,h5⟩:=Ows.swap (H':=upd H a (.lst vs')) (n:=L2.put p (.l os') o) (A:=A) tt nd'.2 r hw (fun B hB sB=>by
     obtain ⟨C,h1,h2,h3,h4⟩:=sub1 hB sB;exact ⟨C,h1,h2,h3,fun x hx=>zaJ fun z=>hx (z ▸ h4)⟩) (fun x hx z=>fr x hx (List.mem_cons_of_mem _ z)) m
    refine ⟨_::C,.l (by rw[zaJ (show b'≠a from fun z=>nd'.1 (z ▸ hin))];exact h) h1,List.nodup_cons.mpr ⟨fun z=>?_,h2⟩,fun x hx=>?_,List.mem_cons_of_mem _ hin⟩
    .rcases h3 _ z with z | z
     .exact nd'.1 z
     .exact fr _ z List.mem_cons_self
    .rcases List.mem_cons.mp hx with rfl | hx
     .exact .inl List.mem_cons_self
     .exact (h3 x hx).imp (List.mem_cons_of_mem _) id
  | @t b ws us As nw h tt=>
   cases eb;rcases hb with hb | hb<;>rw[h] at hb<;>cases hb;rw[L2.sub] at e;rw[L2.put]
   cases r:us[k]? with
   | none=>rw[r] at e;cases e
   | some o=>
    rw[r] at e;have sub1:∀{B:List Addr},Ow mg K H W w o B->B.Sublist Bs->∃C,Ow mg K (upd H a (.lst vs')) W w (L2.put p (.l os') o) C/\C.Nodup/\(∀x∈C,x∈B\/x∈A)/\a∈B:=fun hB sB=>
     ih hB (nd.sublist sB) e qq wa (fun vs B' x1 x2 x3 x4 x5=>f vs B' x1 x2 x3 x4 fun x hx=>sB.subset (x5 x hx)) (fun x hx z=>fr x hx (sB.subset z))
    obtain ⟨w',A',g1,g2,g3⟩:=tt.get r;rw[hw] at g1;cases g1;have hin:a∈Bs:=by
     obtain ⟨C,h1,h2,h3,h4⟩:=sub1 g2 g3;exact g3.subset h4
    obtain ⟨C,h1,h2,h3,E,h4,h5⟩:=Ows.swap (H':=upd H a (.lst vs')) (n:=L2.put p (.l os') o) (A:=A) tt nd r hw (fun B hB sB=>by
     obtain ⟨C,h1,h2,h3,h4⟩:=sub1 hB sB;exact ⟨C,h1,h2,h3,fun x hx=>zaJ fun z=>hx (z ▸ h4)⟩) (fun x hx z=>fr x hx z) m
    exact ⟨C,.t nw (by rw[zaJ (show b'≠a from fun z=>nw (by rw[z];exact wa))];exact h) h1,h2,h3,hin⟩
  | _=>cases e
end
abbrev Fp:=Nat->List Addr
def Inn (f:Fp) (x:Addr):Prop:=∃i,x∈f i
structure Fam (f:Fp):Prop where
 nd:∀i,(f i).Nodup
 ap:∀i j,i≠j->∀x,x∈f i->x∉f j
def fset (f:Fp) (i:Nat) (A:List Addr):Fp:=fun j=>if j=i then A else f j
theorem zbr {f:Fp} {i:Nat} {A:List Addr}:fset f i A i=A:=if_pos rfl
theorem zbI {f:Fp} {i j:Nat} {A:List Addr} (h:j≠i):fset f i A j=f j:=if_neg h
theorem Fam.set {f:Fp} {i:Nat} {A:List Addr} (h:Fam f) (nd:A.Nodup) (ap:∀x∈A,∀j,j≠i->x∉f j):Fam (fset f i A):=⟨fun j=>by
 by_cases e:j=i
 .subst e;rw[zbr];exact nd
 .rw[zbI e];exact h.nd j,fun j k hjk x hx=>by
 by_cases e:j=i
 .subst e;rw[zbr] at hx;rw[zbI hjk.symm];exact ap x hx k hjk.symm
 .rw[zbI e] at hx
  by_cases e':k=i
  .subst e';rw[zbr];exact fun z=>ap x z j e hx
  .rw[zbI e'];exact h.ap j k hjk x hx⟩
theorem Inn.set {f:Fp} {i:Nat} {A:List Addr} {x:Addr} (h:Inn (fset f i A) x):Inn f x\/x∈A:=by
 obtain ⟨j,hj⟩:=h
 by_cases e:j=i
 .subst e;rw[zbr] at hj;exact .inr hj
 .rw[zbI e] at hj;exact .inl ⟨j,hj⟩
structure Mv (A:Addr->Prop) (H:Hp) (W:Addr->Prop) (A':Addr->Prop) (H':Hp) (W':Addr->Prop):Prop where
 same:∀b o,H b=some o->¬A b->H' b=some o
 less:∀x,W' x->W x\/H x=none
 more:∀x,W x->A x\/W' x
 ours:∀x,A' x->A x\/H x=none
 sub:∀x,A x->W x
 dom:∀x,W x->H x≠none
 sub':∀x,A' x->W' x
 dom':∀x,W' x->H' x≠none
section
variable {A A1 A2 A':Addr->Prop} {H H1 H2 H':Hp} {W W1 W2 W':Addr->Prop}
theorem Mv.refl (s:∀x,A x->W x) (d:∀x,W x->H x≠none):Mv A H W A H W:=⟨fun _ _ h _=>h,fun _ h=>.inl h,fun _ h=>.inr h,fun _ h=>.inl h,s,d,s,d⟩
theorem Mv.trans (a:Mv A H W A1 H1 W1) (b:Mv A1 H1 W1 A2 H2 W2):Mv A H W A2 H2 W2:=by
 have k:∀x,H1 x=none->A x\/H x=none:=fun x h=>by
  cases q:H x with
  | none=>exact .inr rfl
  | some o=>
   by_cases hA:A x
   .exact .inl hA
   .rw[a.same x o q hA] at h;cases h
 refine ⟨fun x o h n=>b.same x o (a.same x o h n) fun z=>(a.ours x z).elim n fun q=>(by rw[h] at q;cases q),fun x h=>?_,fun x h=>?_,fun x h=>?_,a.sub,a.dom,b.sub',b.dom'⟩
 .rcases b.less x h with q | q
  .exact a.less x q
  .exact (k x q).imp (a.sub x) id
 .rcases a.more x h with q | q
  .exact .inl q
  .rcases b.more x q with r | r
   .exact (a.ours x r).imp id fun q=>absurd q (a.dom x h)
   .exact .inr r
 .rcases b.ours x h with q | q
  .exact a.ours x q
  .exact k x q
theorem Mv.d (m:Mv A H W A' H' W'):DMv H W H' W':=fun a o h n=>⟨m.same a o h fun z=>n (m.sub a z),fun z=>(m.less a z).elim n fun q=>by rw[h] at q;cases q⟩
theorem Mv.wide (m:Mv A H W A' H' W') (h:∀x,A x->A1 x) (s:∀x,A1 x->W x):Mv A1 H W A' H' W':=⟨fun b o e n=>m.same b o e fun z=>n (h b z),m.less,fun x w=>(m.more x w).imp (h x) id,fun x a=>(m.ours x a).imp (h x) id,s,m.dom,m.sub',m.dom'⟩
theorem Mv.narrow (m:Mv A H W A' H' W') (h:∀x,A1 x->A' x):Mv A H W A1 H' W':=⟨m.same,m.less,m.more,fun x a=>m.ours x (h x a),m.sub,m.dom,fun x a=>m.sub' x (h x a),m.dom'⟩
theorem Mv.hand (m:Mv A H W A' H' W') {x:Addr} (w:W x) (n:¬A x):W' x/\H' x=H x:=⟨(m.more x w).resolve_left n,by
 cases q:H x with
 | none=>exact absurd q (m.dom x w)
 | some o=>exact m.same x o q n⟩
theorem Mv.apart (m:Mv A H W A' H' W') {x:Addr} (w:W x) (n:¬A x):¬A' x:=fun z=>(m.ours x z).elim n (m.dom x w)
theorem Mv.put {p:Addr} {o:HO} (s:∀x,A x->W x) (d:∀x,W x->H x≠none) (h:A p):Mv A H W A (upd H p o) W:=
 ⟨fun b u e n=>by rw[zaJ (fun z=>n (by rw[z];exact h))];exact e,fun _ h=>.inl h,fun _ h=>.inr h,fun _ h=>.inl h,s,d,s,fun x w=>by
  by_cases e:x=p
  .subst e;rw[zbx];exact fun z=>by cases z
  .rw[zaJ e];exact d x w⟩
end
section
variable (mg:Str->Option Value) (K:PySem.W.Frag)
structure Sl (H:Hp) (W:Addr->Prop) (σ:St) (ρ:Rho) (f:Fp):Prop where
 sl:∀(i:Nat) (o:O),ρ[i]? = some o->(o=.z/\f i=[])\/∃v,σ[i]? = some (some v)/\Ow mg K H W v o (f i)
 no:∀i,ρ.length<=i->f i=[]
 len:ρ.length=σ.length
 fam:Fam f
structure Hd (H:Hp) (W:Addr->Prop) (vs:List V) (os:List O) (f:Fp):Prop where
 hd:∀(i:Nat) (o:O),os[i]? = some o->∃v,vs[i]? = some v/\Ow mg K H W v o (f i)
 no:∀i,os.length<=i->f i=[]
 len:vs.length=os.length
 fam:Fam f
def RvOk (H:Hp) (W:Addr->Prop) (σ:St) (v:V):Rv->List Addr->Prop
 | .own o,B=>Ow mg K H W v o B/\B.Nodup
 | .at i p,B=>B=[]/\∃u,σ[i]? = some (some u)/\VAt H p u v
end
section
variable {mg:Str->Option Value} {K:PySem.W.Frag} {A A':Addr->Prop} {H H':Hp} {W W':Addr->Prop} {σ σ':St} {ρ ρ':Rho} {f g:Fp}
theorem Sl.on (s:Sl mg K H W σ ρ f) (m:DMv H W H' W') (e:∀x,Inn f x->H' x=H x):Sl mg K H' W' σ ρ f:=
 ⟨fun i o h=>(s.sl i o h).imp id fun ⟨v,h1,h2⟩=>⟨v,h1,h2.on m fun x hx=>e x ⟨i,hx⟩⟩,s.no,s.len,s.fam⟩
theorem DMv.weak (h:∀x,W' x->W x):DMv H W H W':=fun a o e n=>⟨e,fun z=>n (h a z)⟩
theorem Sl.set {i:Nat} {o:O} {v:V} {B:List Addr} (s:Sl mg K H W σ ρ f) (hi:i < ρ.length) (h:Ow mg K H W v o B) (nd:B.Nodup) (ap:∀x∈B,∀j,j≠i->x∉f j):Sl mg K H W (σ.set i (some v)) (ρ.set i o) (fset f i B):=by
 refine ⟨fun j u e=>?_,fun j hj=>?_,by rw[List.length_set,List.length_set];exact s.len,s.fam.set nd ap⟩
 .by_cases q:j=i
  .subst q;rw[List.getElem?_set_self hi] at e;cases e;exact .inr ⟨v,by rw[List.getElem?_set_self (by rw[<-s.len];exact hi)],by rw[zbr];exact h⟩
  .rw[List.getElem?_set_ne (Ne.symm q)] at e;rw[List.getElem?_set_ne (Ne.symm q),zbI q];exact s.sl j u e
 .rw[List.length_set] at hj;rw[zbI ∅];exact s.no j hj
theorem Sl.setS {i:Nat} {o:O} {v:V} {B:List Addr} (s:Sl mg K H W σ ρ f) (hi:σ[i]? = some (some v)) (h:Ow mg K H W v o B) (nd:B.Nodup) (ap:∀x∈B,∀j,j≠i->x∉f j):Sl mg K H W σ (ρ.set i o) (fset f i B):=by
 have hl:i < σ.length:=by
  by_cases q:i < σ.length
  .exact q
  .rw[List.getElem?_eq_none ∅] at hi;cases hi
 have:=s.set (i:=i) (v:=v) (by rw[s.len];exact hl) h nd ap
 have e:σ.set i (some v)=σ:=by
  apply List.ext_getElem?;intro j
  by_cases q:j=i
  .subst q;rw[List.getElem?_set_self hl,hi]
  .rw[List.getElem?_set_ne (Ne.symm q)]
 rw[e] at this;exact this
theorem Sl.setZ {i:Nat} (s:Sl mg K H W σ ρ f):Sl mg K H W σ (ρ.set i .z) (fset f i []):=by
 refine ⟨fun j u e=>?_,fun j hj=>?_,by rw[List.length_set];exact s.len,s.fam.set List.nodup_nil fun x hx=>nomatch hx⟩
 .by_cases q:j=i
  .subst q
   by_cases hl:j < ρ.length
   .rw[List.getElem?_set_self hl] at e;cases e;exact .inl ⟨rfl,zbr⟩
   .rw[List.getElem?_eq_none (by rw[List.length_set];omega)] at e;cases e
  .rw[List.getElem?_set_ne (Ne.symm q)] at e;rw[zbI q];exact s.sl j u e
 .rw[List.length_set] at hj
  by_cases q:j=i
  .subst q;exact zbr
  .rw[zbI q];exact s.no j hj
theorem Sl.vw {r:Rv} {v:V} {B:List Addr} {o:O} (s:Sl mg K H W σ ρ f) (h:RvOk mg K H W σ v r B) (e:vw ρ r=some o) (nz:o≠.z):∃C,Ow mg K H W v o C/\∀x∈C,Inn f x\/x∈B:=by
 cases r with
 | own u=>cases e;exact ⟨B,h.1,fun x hx=>.inr hx⟩
 | «at» i p=>
  obtain ⟨_,u,h1,h2⟩:=h;rw[L2.vw] at e
  cases q:ρ[i]? with
  | none=>rw[q] at e;cases e
  | some w=>
   rw[q] at e;rcases s.sl i w q with ⟨rfl,_⟩ | ⟨v',g1,g2⟩
   .cases p with
    | nil=>cases e;exact absurd rfl nz
    | cons k p=>cases e
   .rw[h1] at g1;cases g1;obtain ⟨u',C,k1,k2,k3⟩:=g2.sub e
    cases k1.inj h2
    exact ⟨C,k2,fun x hx=>.inl ⟨i,k3.subset hx⟩⟩
end
end L2
namespace L2
open PySem PySem.Spec PyProof.Rows
section
variable {mg:Str->Option Value} {K:PySem.W.Frag} {A A':Addr->Prop} {H H':Hp} {W W':Addr->Prop} {σ σ':St} {ρ ρ':Rho} {f g:Fp}
theorem VAt.on {p:List Nat}:∀{u v:V} {o n:O} {As:List Addr},Ow mg K H W u o As->VAt H p u v->sub p o=some n->(∀x∈As,H' x=H x)->DMv H W H' W'->VAt H' p u v:=by
 induction p with
 | nil=>intro u v o n As _ h _ _ _;exact h
 | cons k p ih=>
  intro u v o n As ow hv es hk m;obtain ⟨a,vs,w,e,h,q,r⟩:=hv
  cases ow with
  | @l b us os Bs h' tt=>
   cases e;have hv:vs=us:=by rcases h with h | h<;>rw[h] at h'<;>cases h'<;>rfl
   subst hv;rw[L2.sub] at es
   cases z:os[k]? with
   | none=>rw[z] at es;cases es
   | some o=>
    rw[z] at es;obtain ⟨w',A1,g1,g2,g3⟩:=tt.get z;rw[q] at g1;cases g1;exact ⟨_,vs,w,rfl,.inl ((hk _ List.mem_cons_self).trans h'),q,ih g2 r es (fun x hx=>hk x (List.mem_cons_of_mem _ (g3.subset hx))) m⟩
  | @t b us os Bs nw h' tt=>
   cases e;have hv:vs=us:=by rcases h with h | h<;>rw[h] at h'<;>cases h'<;>rfl
   subst hv;rw[L2.sub] at es
   cases z:os[k]? with
   | none=>rw[z] at es;cases es
   | some o=>
    rw[z] at es;obtain ⟨w',A1,g1,g2,g3⟩:=tt.get z;rw[q] at g1;cases g1;exact ⟨_,vs,w,rfl,.inr (m _ _ h' nw).1,q,ih g2 r es (fun x hx=>hk x (g3.subset hx)) m⟩
  | _=>cases es
theorem RvOk.on {r:Rv} {v:V} {B:List Addr} {q:Bool} (s:Sl mg K H W σ ρ f) (h:RvOk mg K H W σ v r B) (hB:∀x∈B,W x/\¬Inn f x) (m:Mv (Inn f) H W A' H' W') (hq:q=true->∀x,Inn f x->H' x=H x) (hp:pok ρ q r=true) :
  RvOk mg K H' W' σ v r B:=by
 cases r with
 | own o=>exact ⟨h.1.on m.d fun x hx=>(m.hand (hB x hx).1 (hB x hx).2).2,h.2⟩
 | «at» i p=>
  obtain ⟨e,u,h1,h2⟩:=h;refine ⟨e,u,h1, ?_⟩
  cases p with
  | nil=>exact h2
  | cons k p=>
   rw[pok,Bool.and_eq_true,vw] at hp
   cases z:ρ[i]? with
   | none=>rw[z] at hp;cases hp.2
   | some o=>
    rw[z] at hp;dsimp only at hp;rcases s.sl i o z with ⟨rfl,_⟩ | ⟨u',g1,g2⟩
    .cases hp.2
    .rw[h1] at g1;cases g1
     cases y:L2.sub (k::p) o with
     | none=>rw[y] at hp;cases hp.2
     | some n=>exact VAt.on g2 h2 y (fun x hx=>hq hp.1 x ⟨i,hx⟩) m.d
theorem zc0 {r:Rv} {o:O} (h:vn ρ r=some o):vw ρ r=some o/\o≠.z:=by
 unfold vn at h;split at h
 .cases h
 .rename_i h2;exact ⟨h,fun z=>h2 (by rw[h,z])⟩
end
section
variable (mg:Str->Option Value) (K:PySem.W.Frag) (E:XK)
structure Ok (H:Hp) (W:Addr->Prop) (σ:St) (ρ:Rho) (f:Fp):Prop where
 s:Sl mg K H W σ ρ f
 sub:∀x,Inn f x->W x
 dom:∀x,W x->H x≠none
def XW (c:Str) (H:Hp):Prop:=∃C,mg c=some (.ref C)/\XCls K C/\E (.ref C) none H
def kR (σ:St) (H:Hp) (W:Addr->Prop) (f:Fp) (Q:VK):Re Rv->Prop
 | .bad=>False
 | .ok r ρ' q=>∀v H' W' f' B,Sl mg K H' W' σ ρ' f'->RvOk mg K H' W' σ v r B->(∀x∈B,¬Inn f' x)->Mv (Inn f) H W (fun x=>Inn f' x\/x∈B) H' W'->(q=true->∀x,Inn f x->H' x=H x)->Q v H'
 | .ex c ρ'=>∀H' W' f',Sl mg K H' W' σ ρ' f'->Mv (Inn f) H W (Inn f') H' W'->XW mg K E c H'
def tR (G:EF):TE:=fun σ H Q=>∃W ρ f,Ok mg K H W σ ρ f/\kR mg K E σ H W f Q (G ρ)
def kG {α:Type} (σ:St) (H:Hp) (W:Addr->Prop) (f:Fp) (Q:α->Hp->Prop):Re α->Prop
 | .bad=>False
 | .ok b ρ' q=>∀H' W' f',Sl mg K H' W' σ ρ' f'->Mv (Inn f) H W (Inn f') H' W'->(q=true->∀x,Inn f x->H' x=H x)->Q b H'
 | .ex c ρ'=>∀H' W' f',Sl mg K H' W' σ ρ' f'->Mv (Inn f) H W (Inn f') H' W'->XW mg K E c H'
def tG {α:Type} (G:Rho->Re α):St->Hp->(α->Hp->Prop)->Prop:=fun σ H Q=>∃W ρ f,Ok mg K H W σ ρ f/\kG mg K E σ H W f Q (G ρ)
abbrev tT (G:TF):TT:=tG mg K E G
structure Rvs (H:Hp) (W:Addr->Prop) (σ:St) (vs:List V) (rs:List Rv) (g:Fp):Prop where
 rv:∀(k:Nat) (r:Rv),rs[k]? = some r->∃v,vs[k]? = some v/\RvOk mg K H W σ v r (g k)
 no:∀k,rs.length<=k->g k=[]
 len:vs.length=rs.length
 fam:Fam g
def kRs (σ:St) (H:Hp) (W:Addr->Prop) (f:Fp) (Q:List V->Hp->Prop):Re (List Rv)->Prop
 | .bad=>False
 | .ok rs ρ' q=>∀vs H' W' f' g,Sl mg K H' W' σ ρ' f'->Rvs mg K H' W' σ vs rs g->(∀x,Inn g x->¬Inn f' x)->Mv (Inn f) H W (fun x=>Inn f' x\/Inn g x) H' W'->(q=true->∀x,Inn f x->H' x=H x)->Q vs H'
 | .ex c ρ'=>∀H' W' f',Sl mg K H' W' σ ρ' f'->Mv (Inn f) H W (Inn f') H' W'->XW mg K E c H'
def tRs (G:AF):TA:=fun σ H Q=>∃W ρ f,Ok mg K H W σ ρ f/\kRs mg K E σ H W f Q (G ρ)
end
abbrev VR (X:Cx) (E:XK) (e:Expr) (G:EF):Prop:=PE X e (tR X.mg X.K E G)
abbrev VT (X:Cx) (E:XK) (e:Expr) (G:TF):Prop:=PT X e (tT X.mg X.K E G)
abbrev VA (X:Cx) (E:XK) (es:List Expr) (G:AF):Prop:=PA X es (tRs X.mg X.K E G)
theorem PE.imp {X:Cx} {e:Expr} {t t':TE} (h:PE X e t) (i:∀σ H Q,t' σ H Q->t σ H Q):PE X e t':=fun pins s σ H Q I q=>h pins s σ H Q I (i σ H Q q)
theorem PT.imp {X:Cx} {e:Expr} {t t':TT} (h:PT X e t) (i:∀σ H Q,t' σ H Q->t σ H Q):PT X e t':=fun pins s σ H Q I q=>h pins s σ H Q I (i σ H Q q)
theorem PA.imp {X:Cx} {e:List Expr} {t t':TA} (h:PA X e t) (i:∀σ H Q,t' σ H Q->t σ H Q):PA X e t':=fun pos pins s σ H Q I q=>h pos pins s σ H Q I (i σ H Q q)
def zaa (i:Nat):EF:=fun ρ=>match ρ[i]? with
 | some .z=>.bad
 | some _=>.ok (.at i []) ρ true
 | none=>.bad
def eC (x:PyData):EF:=fun ρ=>.ok (.own (.d x)) ρ true
section
variable {X:Cx} {E:XK}
theorem Ok.refl {mg:Str->Option Value} {K:PySem.W.Frag} {H:Hp} {W:Addr->Prop} {σ:St} {ρ:Rho} {f:Fp} (o:Ok mg K H W σ ρ f):Mv (Inn f) H W (fun x=>Inn f x\/x∈([]:List Addr)) H W:=
 (Mv.refl o.sub o.dom).narrow fun x h=>h.resolve_right fun z=>nomatch z
theorem zoH {i:Nat} {x:Str} {pos:Pos} (h:PE X (.Name x pos) (tVar i)):VR X E (.Name x pos) (zaa i):=h.imp fun σ H Q hx__=>by
 obtain ⟨W,ρ,f,ok,q⟩:=hx__;unfold zaa at q
 cases e:ρ[i]? with
 | none=>rw[e] at q;exact False.elim q
 | some o=>
  rw[e] at q;rcases ok.s.sl i o e with ⟨rfl,_⟩ | ⟨v,h1,h2⟩
  .exact False.elim q
  .refine ⟨v,h1, ?_⟩
   have:=fun nz:o≠.z=>(show ∀v H' W' f' B,Sl X.mg X.K H' W' σ ρ f'->RvOk X.mg X.K H' W' σ v (.at i []) B->(∀x∈B,¬Inn f' x)->Mv (Inn f) H W (fun x=>Inn f' x\/x∈B) H' W'->(true=true->∀x,Inn f x->H' x=H x)->Q v H' from by cases o<;>first | exact q | exact absurd rfl nz) v H W f [] ok.s ⟨rfl,v,h1,rfl⟩ (fun x z=>nomatch z) ok.refl fun _ _ _=>rfl
   by_cases nz:o=.z
   .subst nz;exact False.elim q
   .exact this nz
theorem zcm {e:Expr} {c:V} {x:PyData} (h:PE X e (tC c)) (d:∀H W,Dn H W c x):VR X E e (eC x):=h.imp fun σ H Q ⟨W,ρ,f,ok,q⟩=>
 q c H W f [] ok.s ⟨.d (d H W),List.nodup_nil⟩ (fun x z=>nomatch z) ok.refl fun _ _ _=>rfl
end
def e2 (A B:EF) (F:O->O->Option O):EF:=fun ρ=>(A ρ).bind fun ra ρ1 q1=>(B ρ1).bind fun rb ρ2 q2=>
 if pok ρ1 q2 ra then match vn ρ2 ra,vn ρ2 rb with
  | some x,some y=>match F x y with
   | some z=>.ok (.own z) ρ2 (q1&&q2)
   | none=>.bad
  | _,_=>.bad
 else .bad
structure Gr (H:Hp) (W:Addr->Prop) (B:List Addr) (H':Hp) (W':Addr->Prop):Prop where
 same:Same H H'
 fresh:∀x∈B,H x=none
 nd:B.Nodup
 w:∀x,W' x↔W x\/x∈B
 dom:∀x∈B,H' x≠none
theorem Gr.refl {H:Hp} {W:Addr->Prop}:Gr H W [] H W:=⟨Same.refl _,fun _ z=>(nomatch z),List.nodup_nil,fun x=>⟨.inl,fun h=>h.resolve_right fun z=>nomatch z⟩,fun _ z=>nomatch z⟩
theorem Gr.new {H:Hp} {W:Addr->Prop} {p:Addr} {o:HO} (h:H p=none):Gr H W [] (upd H p o) W:=⟨Same.new h,fun _ z=>(nomatch z),List.nodup_nil,fun x=>⟨.inl,fun h=>h.resolve_right fun z=>nomatch z⟩,fun _ z=>nomatch z⟩
theorem Gr.newO {H:Hp} {W:Addr->Prop} {p:Addr} {o:HO} (h:H p=none):Gr H W [p] (upd H p o) (fun x=>W x\/x∈[p]):=
 ⟨Same.new h,fun x z=>by rw[List.mem_singleton.mp z];exact h,List.nodup_cons.mpr ⟨fun z=>(nomatch z),List.nodup_nil⟩,fun _=>Iff.rfl,fun x z=>by rw[List.mem_singleton.mp z,zbx];exact fun z=>nomatch z⟩
theorem Gr.mv {A:Addr->Prop} {H H':Hp} {W W':Addr->Prop} {B:List Addr} (g:Gr H W B H' W') (s:∀x,A x->W x) (d:∀x,W x->H x≠none):Mv A H W (fun x=>A x\/x∈B) H' W':=
 ⟨fun b o e _=>g.same b o e,fun x h=>((g.w x).mp h).imp id (g.fresh x),fun x h=>.inr ((g.w x).mpr (.inl h)),fun x h=>h.imp id (g.fresh x),s,d,fun x h=>(g.w x).mpr (h.imp (s x) id),fun x h=>by
  rcases (g.w x).mp h with h | h
  .cases e:H x with
   | none=>exact absurd e (d x h)
   | some o=>rw[g.same x o e];exact fun z=>nomatch z
  .exact g.dom x h⟩
theorem Gr.kept {H H':Hp} {W W':Addr->Prop} {B:List Addr} (g:Gr H W B H' W') (d:∀x,W x->H x≠none) {x:Addr} (h:W x):H' x=H x:=by
 cases e:H x with
 | none=>exact absurd e (d x h)
 | some o=>exact g.same x o e
section
variable (mg:Str->Option Value) (K:PySem.W.Frag)
def rV2 (F:O->O->Option O):R2:=fun x y H Q=>∃W ox oy As Bs z,Ow mg K H W x ox As/\Ow mg K H W y oy Bs/\(∀x,W x->H x≠none)/\F ox oy=some z/\
 ∀v H' W' B,Gr H W B H' W'->Ow mg K H' W' v z B->Q v H'
def rV1 (F:O->Option O):V->Hp->VK->Prop:=fun x H Q=>∃W ox As z,Ow mg K H W x ox As/\(∀x,W x->H x≠none)/\F ox=some z/\
 ∀v H' W' B,Gr H W B H' W'->Ow mg K H' W' v z B->Q v H'
def rVs (F:List O->Option O):List V->Hp->VK->Prop:=fun xs H Q=>∃W os z,xs.length=os.length/\(∀(k:Nat) (o:O),os[k]? = some o->∃v As,xs[k]? = some v/\Ow mg K H W v o As)/\(∀x,W x->H x≠none)/\F os=some z/\
 ∀v H' W' B,Gr H W B H' W'->Ow mg K H' W' v z B->Q v H'
end
section
variable {mg:Str->Option Value} {K:PySem.W.Frag} {E:XK} {σ:St} {H:Hp}
theorem two {A B:EF} {R:V->V->Hp->Prop} {W:Addr->Prop} {ρ:Rho} {f:Fp} (ok:Ok mg K H W σ ρ f)
  (h:match A ρ with
   | .bad=>False
   | .ex c ρ'=>∀H' W' f',Sl mg K H' W' σ ρ' f'->Mv (Inn f) H W (Inn f') H' W'->XW mg K E c H'
   | .ok ra ρ1 q1=>match B ρ1 with
    | .bad=>False
    | .ex c ρ'=>∀H' W' f',Sl mg K H' W' σ ρ' f'->Mv (Inn f) H W (Inn f') H' W'->XW mg K E c H'
    | .ok rb ρ2 q2=>pok ρ1 q2 ra=true/\∀v u H' W' f' C D,Sl mg K H' W' σ ρ2 f'->RvOk mg K H' W' σ v ra C->RvOk mg K H' W' σ u rb D->(∀x∈C,¬Inn f' x)->(∀x∈D,¬Inn f' x)->(∀x∈C,x∉D)->
      Mv (Inn f) H W (fun x=>Inn f' x\/x∈C\/x∈D) H' W'->((q1&&q2)=true->∀x,Inn f x->H' x=H x)->R v u H') :
  tR mg K E A σ H fun x H1=>tR mg K E B σ H1 fun y H2=>R x y H2:=by
 refine ⟨W,ρ,f,ok, ?_⟩
 cases a:A ρ with
 | bad=>rw[a] at h;exact h
 | ex c ρ'=>rw[a] at h;exact h
 | ok ra ρ1 q1=>
  rw[a] at h;intro v H1 W1 f1 C s1 r1 n1 m1 k1;have ok1:Ok mg K H1 W1 σ ρ1 f1:=⟨s1,fun x hx=>m1.sub' x (.inl hx),m1.dom'⟩;refine ⟨W1,ρ1,f1,ok1, ?_⟩;have hC:∀x∈C,W1 x/\¬Inn f1 x:=fun x hx=>⟨m1.sub' x (.inr hx),n1 x hx⟩
  dsimp only at h
  cases b:B ρ1 with
  | bad=>rw[b] at h;exact h
  | ex c ρ'=>
   rw[b] at h;exact fun H2 W2 f2 s2 m2=>h H2 W2 f2 s2 (m1.trans (m2.wide (fun x hx=>.inl hx) m1.sub'))
  | ok rb ρ2 q2=>
   rw[b] at h;obtain ⟨hp,h⟩:=h;intro u H2 W2 f2 D s2 r2 n2 m2 k2;have m2':Mv (fun x=>Inn f1 x\/x∈C) H1 W1 (fun x=>Inn f2 x\/x∈C\/x∈D) H2 W2:=
    ⟨fun b o e n=>m2.same b o e fun z=>n (.inl z),m2.less,fun x w=>(m2.more x w).imp .inl id,fun x w=>by
     rcases w with w | w | w
     .exact (m2.ours x (.inl w)).imp .inl id
     .exact .inl (.inr w)
     .exact (m2.ours x (.inr w)).imp .inl id,m1.sub',m2.dom,fun x w=>by
     rcases w with w | w | w
     .exact m2.sub' x (.inl w)
     .exact (m2.hand (hC x w).1 (hC x w).2).1
     .exact m2.sub' x (.inr w),m2.dom'⟩
   refine h v u H2 W2 f2 C D s2 (r1.on s1 hC m2 k2 hp) r2 (fun x hx z=>m2.apart (hC x hx).1 (hC x hx).2 (.inl z)) n2 (fun x hx z=>m2.apart (hC x hx).1 (hC x hx).2 (.inr z)) (m1.trans m2') fun hq x hx=>?_
   rw[Bool.and_eq_true] at hq;have e1:=k1 hq.1 x hx;have w1:W1 x\/¬W1 x:=Classical.em _
   by_cases i1:Inn f1 x
   .exact (k2 hq.2 x i1).trans e1
   .cases e:H x with
    | none=>exact absurd e (ok.dom x (ok.sub x hx))
    | some o=>
     rw[e] at e1;exact m2.same x o e1 i1
end
section
variable {mg:Str->Option Value} {K:PySem.W.Frag} {A0:Addr->Prop} {H H' H'':Hp} {W W' W'':Addr->Prop} {σ:St} {ρ ρ':Rho} {f f' g:Fp} {B:List Addr}
theorem Gr.d (g:Gr H W B H' W'):DMv H W H' W':=fun a o e n=>⟨g.same a o e,fun z=>((g.w a).mp z).elim n fun q=>by rw[g.fresh a q] at e;cases e⟩
theorem Gr.fin (s:Sl mg K H' W' σ ρ' f') (m:Mv (Inn f) H W A0 H' W') (hA:∀x,Inn f' x->A0 x) (g:Gr H' W' B H'' W'') :
  Sl mg K H'' W'' σ ρ' f'/\(∀x∈B,¬Inn f' x)/\Mv (Inn f) H W (fun x=>Inn f' x\/x∈B) H'' W'':=by
 have hW:∀x,Inn f' x->W' x:=fun x hx=>m.sub' x (hA x hx)
 refine ⟨s.on g.d fun x hx=>g.kept m.dom' (hW x hx),fun x hx z=>m.dom' x (hW x z) (g.fresh x hx),(m.trans (g.mv m.sub' m.dom')).narrow fun x hx=>hx.imp (hA x) id⟩
theorem Gr.quiet (o:Ok mg K H W σ ρ f) (g:Gr H' W' B H'' W'') (k:∀x,Inn f x->H' x=H x):∀x,Inn f x->H'' x=H x:=fun x hx=>by
 cases e:H x with
 | none=>exact absurd e (o.dom x (o.sub x hx))
 | some u=>exact g.same x u ((k x hx).trans e)
end
section
variable {X:Cx} {E:XK}
theorem vr2 {A B:EF} {F:O->O->Option O} {σ:St} {H:Hp} {Q:VK} (h:tR X.mg X.K E (e2 A B F) σ H Q):tOp (rV2 X.mg X.K F) (tR X.mg X.K E A) (tR X.mg X.K E B) σ H Q:=by
 obtain ⟨W,ρ,f,ok,q⟩:=h;refine two ok ?_;unfold e2 at q
 cases a:A ρ with
 | bad=>rw[a] at q;exact q
 | ex c ρ'=>rw[a] at q;exact q
 | ok ra ρ1 q1=>
  rw[a] at q;dsimp only[Re.bind] at q ⊢
  cases b:B ρ1 with
  | bad=>rw[b] at q;exact q
  | ex c ρ'=>rw[b] at q;exact q
  | ok rb ρ2 q2=>
   rw[b] at q;dsimp only at q ⊢
   by_cases hp:pok ρ1 q2 ra=true
   .rw[if_pos hp] at q;refine ⟨hp,fun v u H' W' f' C D s r1 r2 n1 n2 n3 m k=>?_⟩
    cases e1:vn ρ2 ra with
    | none=>rw[e1] at q;exact False.elim q
    | some x=>
     cases e2:vn ρ2 rb with
     | none=>rw[e1,e2] at q;exact False.elim q
     | some y=>
      rw[e1,e2] at q;dsimp only at q
      cases e3:F x y with
      | none=>rw[e3] at q;exact False.elim q
      | some z=>
       rw[e3] at q;obtain ⟨a1,a2⟩:=zc0 e1;obtain ⟨b1,b2⟩:=zc0 e2;obtain ⟨_,o1,_⟩:=s.vw r1 a1 a2;obtain ⟨_,o2,_⟩:=s.vw r2 b1 b2;refine ⟨W',x,y,_,_,z,o1,o2,m.dom',e3,fun w H'' W'' B' g ow=>?_⟩;obtain ⟨g1,g2,g3⟩:=g.fin s m fun x hx=>.inl hx
       exact q w H'' W'' f' B' g1 ⟨ow,g.nd⟩ g2 g3 fun hq=>g.quiet ok (k hq)
   .rw[if_neg hp] at q;exact False.elim q
theorem zrJ {op:Operator} {F:O->O->Option O} {a b:Expr} {A B:EF} {pos:Pos} (ho:OpR X (binaryOp op) (rV2 X.mg X.K F)) (ha:VR X E a A) (hb:VR X E b B):VR X E (.BinOp a op b pos) (e2 A B F):=
 (zt6 ho ha hb).imp fun _ _ _ h=>vr2 h
theorem zqE {op:CmpOp} {F:O->O->Option O} {a b:Expr} {A B:EF} {pos:Pos} (ho:OpR X (compareOp op) (rV2 X.mg X.K F)) (ha:VR X E a A) (hb:VR X E b B) (hm:behindInMarks op b=false):VR X E (.Compare a [op] [b] pos) (e2 A B F):=
 (zpD ho ha hb hm).imp fun _ _ _ h=>vr2 h
def tst (G:EF):TF:=fun ρ=>match G ρ with
 | .bad=>.bad
 | .ex c ρ'=>.ex c ρ'
 | .ok r ρ' q=>match vn ρ' r with
  | some (.d (.bool b))=>.ok b ρ' q
  | _=>.bad
theorem zt3 {G:EF} {σ:St} {H:Hp} {Q:Bool->Hp->Prop} (h:tT X.mg X.K E (tst G) σ H Q):tR X.mg X.K E G σ H fun x H'=>∃k,x=.bl k/\Q k H':=by
 obtain ⟨W,ρ,f,ok,q⟩:=h;refine ⟨W,ρ,f,ok, ?_⟩;unfold tst at q
 cases a:G ρ with
 | bad=>rw[a] at q;exact q
 | ex c ρ'=>rw[a] at q;exact q
 | ok r ρ' q'=>
  rw[a] at q;intro v H' W' f' B s rv n m k;dsimp only at q
  cases e:vn ρ' r with
  | none=>rw[e] at q;exact False.elim q
  | some o=>
   rw[e] at q;obtain ⟨a1,a2⟩:=zc0 e;obtain ⟨_,ow,_⟩:=s.vw rv a1 a2
   cases o with
   | d x=>
    cases x with
    | bool b=>
     cases ow with
     | d hd=>cases hd;exact ⟨b,rfl,q H' W' f' s (m.narrow fun x hx=>.inl hx) k⟩
    | _=>exact False.elim q
   | _=>exact False.elim q
theorem zhH {op:CmpOp} {F:O->O->Option O} {a b:Expr} {A B:EF} {pos:Pos} (ho:OpR X (compareOp op) (rV2 X.mg X.K F)) (ha:VR X E a A) (hb:VR X E b B) (hm:behindInMarks op b=false):VT X E (.Compare a [op] [b] pos) (tst (e2 A B F)):=
 (zo3 ho ha hb hm).imp fun σ H Q h=>by
  have:=zt3 h
  exact vr2 (E:=E) (X:=X) this
def e1 (A:EF) (F:O->Option O):EF:=fun ρ=>(A ρ).bind fun ra ρ1 q1=>match vn ρ1 ra with
 | some x=>match F x with
  | some z=>.ok (.own z) ρ1 q1
  | none=>.bad
 | none=>.bad
theorem vr1 {A:EF} {F:O->Option O} {σ:St} {H:Hp} {Q:VK} (h:tR X.mg X.K E (e1 A F) σ H Q):tR X.mg X.K E A σ H fun x H1=>rV1 X.mg X.K F x H1 Q:=by
 obtain ⟨W,ρ,f,ok,q⟩:=h;refine ⟨W,ρ,f,ok, ?_⟩;unfold e1 at q
 cases a:A ρ with
 | bad=>rw[a] at q;exact q
 | ex c ρ'=>rw[a] at q;exact q
 | ok ra ρ1 q1=>
  rw[a] at q;intro v H' W' f' C s r n m k;dsimp only[Re.bind] at q
  cases e1:vn ρ1 ra with
  | none=>rw[e1] at q;exact False.elim q
  | some x=>
   rw[e1] at q;dsimp only at q
   cases e3:F x with
   | none=>rw[e3] at q;exact False.elim q
   | some z=>
    rw[e3] at q;obtain ⟨a1,a2⟩:=zc0 e1;obtain ⟨_,o1,_⟩:=s.vw r a1 a2;refine ⟨W',x,_,z,o1,m.dom',e3,fun w H'' W'' B' g ow=>?_⟩;obtain ⟨g1,g2,g3⟩:=g.fin s m fun x hx=>.inl hx
    exact q w H'' W'' f' B' g1 ⟨ow,g.nd⟩ g2 g3 fun hq=>g.quiet ok (k hq)
theorem ztf {op:UnaryOp} {F:O->Option O} {a:Expr} {A:EF} {pos:Pos} (ho:UnR X (unaryOp op) (rV1 X.mg X.K F)) (ha:VR X E a A):VR X E (.UnaryOp op a pos) (e1 A F):=
 (zqP ho ha).imp fun _ _ _ h=>vr1 h
def aNil:AF:=fun ρ=>.ok [] ρ true
def zac (A:EF) (R:AF):AF:=fun ρ=>(A ρ).bind fun r ρ1 q1=>(R ρ1).bind fun rs ρ2 q2=>if pok ρ1 q2 r then .ok (r::rs) ρ2 (q1&&q2) else .bad
theorem zfy:VA X E [] aNil:=PA.imp zeQ fun σ H Q ⟨W,ρ,f,ok,q⟩=>
 q [] H W f (fun _=>[]) ok.s ⟨fun k r e=>by simp at e,fun _ _=>rfl,rfl,⟨fun _=>List.nodup_nil,fun _ _ _ _ z=>nomatch z⟩⟩ (fun x ⟨_,z⟩=>nomatch z)
  ((Mv.refl ok.sub ok.dom).narrow fun x h=>h.resolve_right fun ⟨_,z⟩=>nomatch z) fun _ _ _=>rfl
def zhw (B:List Addr) (g:Fp):Fp:=fun k=>match k with | 0=>B | k+1=>g k
theorem inn_cons {B:List Addr} {g:Fp} {x:Addr}:Inn (zhw B g) x↔x∈B\/Inn g x:=⟨fun hx__=>by
 obtain ⟨k,h⟩:=hx__
 cases k with
 | zero=>exact .inl h
 | succ k=>exact .inr ⟨k,h⟩,fun h=>h.elim (fun h=>⟨0,h⟩) fun ⟨k,h⟩=>⟨k+1,h⟩⟩
theorem Fam.cons {B:List Addr} {g:Fp} (nd:B.Nodup) (h:Fam g) (ap:∀x∈B,¬Inn g x):Fam (zhw B g):=⟨fun k=>by
 cases k with
 | zero=>exact nd
 | succ k=>exact h.nd k,fun i j hij x hx hy=>by
 cases i with
 | zero=>
  cases j with
  | zero=>exact hij rfl
  | succ j=>exact ap x hx ⟨j,hy⟩
 | succ i=>
  cases j with
  | zero=>exact ap x hy ⟨i,hx⟩
  | succ j=>exact h.ap i j (fun z=>hij (by rw[z])) x hx hy⟩
theorem RvOk.nd {mg:Str->Option Value} {K:PySem.W.Frag} {H:Hp} {W:Addr->Prop} {σ:St} {v:V} {r:Rv} {B:List Addr} (h:RvOk mg K H W σ v r B):B.Nodup:=by
 cases r with
 | own o=>exact h.2
 | «at» i p=>rw[h.1];exact List.nodup_nil
theorem zbu {e:Expr} {es:List Expr} {A:EF} {R:AF} (ha:VR X E e A) (hr:VA X E es R) (hs:starEach (e::es) X.env=(false,eval e X.env)::starEach es X.env:=by rfl):VA X E (e::es) (zac A R):=
 (zdP ha hr hs).imp fun σ H Q hx__=>by
  obtain ⟨W,ρ,f,ok,q⟩:=hx__;refine ⟨W,ρ,f,ok, ?_⟩;unfold zac at q
  cases a:A ρ with
  | bad=>rw[a] at q;exact q
  | ex c ρ'=>rw[a] at q;exact q
  | ok r ρ1 q1=>
   rw[a] at q;intro v H1 W1 f1 C s1 r1 n1 m1 k1;have ok1:Ok X.mg X.K H1 W1 σ ρ1 f1:=⟨s1,fun x hx=>m1.sub' x (.inl hx),m1.dom'⟩;refine ⟨W1,ρ1,f1,ok1, ?_⟩;have hC:∀x∈C,W1 x/\¬Inn f1 x:=fun x hx=>⟨m1.sub' x (.inr hx),n1 x hx⟩
   dsimp only[Re.bind] at q
   cases b:R ρ1 with
   | bad=>rw[b] at q;exact q
   | ex c ρ'=>
    rw[b] at q;exact fun H2 W2 f2 s2 m2=>q H2 W2 f2 s2 (m1.trans (m2.wide (fun x hx=>.inl hx) m1.sub'))
   | ok rs ρ2 q2=>
    rw[b] at q;dsimp only at q
    by_cases hp:pok ρ1 q2 r=true
    .rw[if_pos hp] at q;intro vs H2 W2 f2 g s2 r2 n2 m2 k2;have ap:∀x∈C,¬Inn g x:=fun x hx z=>m2.apart (hC x hx).1 (hC x hx).2 (.inr z)
     refine q (v::vs) H2 W2 f2 (zhw C g) s2 ⟨fun k r' e=>?_,fun k hk=>?_,by simp[r2.len],.cons r1.nd r2.fam ap⟩ (fun x hx z=>?_) (m1.trans ⟨fun b o e n=>m2.same b o e fun z=>n (.inl z),m2.less,fun x w=>(m2.more x w).imp .inl id,fun x w=>?_,m1.sub',m2.dom,fun x w=>?_,m2.dom'⟩) fun hq x hx=>?_
     .cases k with
      | zero=>cases e;exact ⟨v,rfl,r1.on s1 hC m2 k2 hp⟩
      | succ k=>exact r2.rv k r' e
     .cases k with
      | zero=>simp at hk
      | succ k=>exact r2.no k (by simpa using hk)
     .rcases inn_cons.mp hx with hx | hx
      .exact m2.apart (hC x hx).1 (hC x hx).2 (.inl z)
      .exact n2 x hx z
     .rcases w with w | w
      .exact (m2.ours x (.inl w)).imp .inl id
      .rcases inn_cons.mp w with w | w
       .exact .inl (.inr w)
       .exact (m2.ours x (.inr w)).imp .inl id
     .rcases w with w | w
      .exact m2.sub' x (.inl w)
      .rcases inn_cons.mp w with w | w
       .exact (m2.hand (hC x w).1 (hC x w).2).1
       .exact m2.sub' x (.inr w)
     .rw[Bool.and_eq_true] at hq;have e1:=k1 hq.1 x hx
      by_cases i1:Inn f1 x
      .exact (k2 hq.2 x i1).trans e1
      .cases e:H x with
       | none=>exact absurd e (ok.dom x (ok.sub x hx))
       | some o=>
        rw[e] at e1;exact m2.same x o e1 i1
    .rw[if_neg hp] at q;exact False.elim q
end
section
variable {mg:Str->Option Value} {K:PySem.W.Frag} {H:Hp} {W:Addr->Prop} {σ:St} {ρ ρ':Rho} {f g:Fp}
structure Gv (W:Addr->Prop) (f:Fp) (W':Addr->Prop) (f':Fp):Prop where
 less:∀x,W' x->W x
 more:∀x,W x->Inn f x\/W' x
 ours:∀x,Inn f' x->Inn f x
 sub:∀x,Inn f' x->W' x
theorem Gv.trans {W1 W2:Addr->Prop} {f1 f2:Fp} (a:Gv W f W1 f1) (b:Gv W1 f1 W2 f2):Gv W f W2 f2:=
 ⟨fun x h=>a.less x (b.less x h),fun x h=>(a.more x h).elim .inl fun h=>(b.more x h).imp (a.ours x) id,fun x h=>a.ours x (b.ours x h),b.sub⟩
theorem Gv.refl (s:∀x,Inn f x->W x):Gv W f W f:=⟨fun _ h=>h,fun _ h=>.inr h,fun _ h=>h,s⟩
theorem zgu {r:Rv} {v:V} {B:List Addr} {o:O} (s:Sl mg K H W σ ρ f) (sb:∀x,Inn f x->W x) (h:RvOk mg K H W σ v r B) (e:coe ρ r=some (o,ρ')) :
  ∃W' f',Sl mg K H W' σ ρ' f'/\Gv W f W' f'/\∃B',Ow mg K H W' v o B'/\B'.Nodup/\∀x∈B',x∈B:=by
 cases r with
 | own u=>cases e;exact ⟨W,f,s,.refl sb,B,h.1,h.2,fun _ z=>z⟩
 | «at» i p=>
  obtain ⟨_,u,h1,h2⟩:=h;rw[coe] at e
  cases q:ρ[i]? with
  | none=>rw[q] at e;cases e
  | some w=>
   rw[q] at e;dsimp only at e;rcases s.sl i w q with ⟨rfl,_⟩ | ⟨v',g1,g2⟩
   .cases p with
    | nil=>cases e
    | cons k p=>cases e
   .rw[h1] at g1;cases g1
    cases y:sub p w with
    | none=>rw[y] at e;cases e
    | some n=>
     rw[y] at e;obtain ⟨u',C,k1,k2,k3⟩:=g2.sub y
     cases k1.inj h2
     have fin:∀xi x,fz w=some xi->fz n=some x->o=.d x->ρ'=ρ.set i (.d xi)->∃W' f',Sl mg K H W' σ ρ' f'/\Gv W f W' f'/\∃B',Ow mg K H W' v o B'/\B'.Nodup/\∀x∈B',x∈B:=fun xi x e1 e2 e3 e4=>by
      subst e3 e4;refine ⟨fun a=>W a/\a∉f i,fset f i [], ?_,⟨fun x h=>h.1,fun x h=>(Classical.em (x∈f i)).imp (fun z=>⟨i,z⟩) fun z=>⟨h,z⟩,fun x h=>h.set.elim id fun z=>(nomatch z),fun x h=>?_⟩,[],.d (k2.dn (fun _ z=>z.1) e2 fun x hx z=>z.2 (k3.subset hx)),List.nodup_nil,fun _ z=>nomatch z⟩
      .have s':Sl mg K H (fun a=>W a/\a∉f i) σ ρ f:=s.on (DMv.weak fun _ z=>z.1) fun _ _=>rfl
       exact s'.setS h1 (.d (g2.dn (fun _ z=>z.1) e1 fun x hx z=>z.2 hx)) List.nodup_nil fun x z=>nomatch z
      .obtain ⟨j,hj⟩:=h
       by_cases ej:j=i
       .subst ej;rw[zbr] at hj;cases hj
       .rw[zbI ej] at hj;exact ⟨sb x ⟨j,hj⟩,fun z=>s.fam.ap j i ej x hj z⟩
     cases n with
     | d x=>cases e;cases k2 with | d hd=>exact ⟨W,f,s,.refl sb,[],.d hd,List.nodup_nil,fun _ z=>nomatch z⟩
     | x c=>cases e;cases k2 with | x n1 n2 n3 n4=>exact ⟨W,f,s,.refl sb,[],.x n1 n2 n3 n4,List.nodup_nil,fun _ z=>nomatch z⟩
     | q ob=>cases e;cases k2 with | q n1=>exact ⟨W,f,s,.refl sb,[],.q n1,List.nodup_nil,fun _ z=>nomatch z⟩
     | g ob=>cases e;cases k2 with | g n1 n2=>exact ⟨W,f,s,.refl sb,[],.g n1 n2,List.nodup_nil,fun _ z=>nomatch z⟩
     | z=>
      dsimp only at e;rw[show fz .z=none from rfl] at e
      cases a1:fz w<;>rw[a1] at e<;>cases e
     | l xs=>
      dsimp only at e
      cases a1:fz w with
      | none=>rw[a1] at e;cases e
      | some xi=>
       cases a2:fz (.l xs) with
       | none=>rw[a1,a2] at e;cases e
       | some x=>rw[a1,a2] at e;cases e;exact fin xi x a1 a2 rfl rfl
     | t xs=>
      dsimp only at e
      cases a1:fz w with
      | none=>rw[a1] at e;cases e
      | some xi=>
       cases a2:fz (.t xs) with
       | none=>rw[a1,a2] at e;cases e
       | some x=>rw[a1,a2] at e;cases e;exact fin xi x a1 a2 rfl rfl
theorem zid {r:Rv} {v:V} {B:List Addr} {o:O} (s:Sl mg K H W σ ρ f) (sb:∀x,Inn f x->W x) (h:RvOk mg K H W σ v r B) (hB:∀x∈B,W x/\¬Inn f x) (e:mov ρ r=some (o,ρ')) :
  ∃W' f',Sl mg K H W' σ ρ' f'/\Gv W f W' f'/\∃B',Ow mg K H W' v o B'/\B'.Nodup/\∀x∈B',(x∈B\/Inn f x)/\W' x/\¬Inn f' x:=by
 have viaCoe:coe ρ r=some (o,ρ')->∃W' f',Sl mg K H W' σ ρ' f'/\Gv W f W' f'/\∃B',Ow mg K H W' v o B'/\B'.Nodup/\∀x∈B',(x∈B\/Inn f x)/\W' x/\¬Inn f' x:=fun e=>by
  obtain ⟨W',f',s',g,B',h1,h2,h3⟩:=zgu s sb h e;exact ⟨W',f',s',g,B',h1,h2,fun x hx=>⟨.inl (h3 x hx),(g.more x (hB x (h3 x hx)).1).resolve_left (hB x (h3 x hx)).2,fun z=>(hB x (h3 x hx)).2 (g.ours x z)⟩⟩
 cases r with
 | own u=>exact viaCoe e
 | «at» i p=>
  cases p with
  | cons k p=>exact viaCoe e
  | nil=>
   obtain ⟨_,u,h1,h2⟩:=h
   cases (show u=v from h2)
   rw[mov] at e
   cases q:ρ[i]? with
   | none=>rw[q] at e;cases e
   | some w=>
    rw[q] at e;rcases s.sl i w q with ⟨rfl,_⟩ | ⟨v',g1,g2⟩
    .cases e
    .rw[h1] at g1;cases g1;have e':o=w/\ρ'=ρ.set i .z:=by
      cases w<;>first | (cases e;exact ⟨rfl,rfl⟩) | cases e
     obtain ⟨rfl,rfl⟩:=e';exact ⟨W,fset f i [],s.setZ,⟨fun _ h=>h,fun _ h=>.inr h,fun x h=>h.set.elim id fun z=>(nomatch z),fun x h=>sb x (h.set.elim id fun z=>nomatch z)⟩,f i,g2,s.fam.nd i,fun x hx=>⟨.inr ⟨i,hx⟩,sb x ⟨i,hx⟩,fun hx__=>by
      obtain ⟨j,hj⟩:=hx__
      by_cases ej:j=i
      .subst ej;rw[zbr] at hj;cases hj
      .rw[zbI ej] at hj;exact s.fam.ap j i ej x hj hx⟩⟩
def coes (ρ:Rho):List Rv->Option (List O×Rho)
 | []=>some ([],ρ)
 | r::rs=>match coe ρ r with
  | some (o,ρ1)=>match coes ρ1 rs with
   | some (os,ρ2)=>some (o::os,ρ2)
   | none=>none
  | none=>none
def movs (ρ:Rho):List Rv->Option (List O×Rho)
 | []=>some ([],ρ)
 | r::rs=>match mov ρ r with
  | some (o,ρ1)=>match movs ρ1 rs with
   | some (os,ρ2)=>some (o::os,ρ2)
   | none=>none
  | none=>none
theorem Rvs.tail {vs:List V} {r:Rv} {rs:List Rv} (h:Rvs mg K H W σ vs (r::rs) g):∃v us,vs=v::us/\RvOk mg K H W σ v r (g 0)/\Rvs mg K H W σ us rs (fun k=>g (k+1)):=by
 cases vs with
 | nil=>have:=h.len;simp at this
 | cons v us=>
  obtain ⟨v',e,q⟩:=h.rv 0 r rfl;cases e;exact ⟨v,us,rfl,q,⟨fun k r' e=>h.rv (k+1) r' e,fun k hk=>h.no (k+1) (by simpa using hk),by simpa using h.len,⟨fun i=>h.fam.nd _,fun i j hij=>h.fam.ap _ _ ∅⟩⟩⟩
theorem RvOk.weak {W':Addr->Prop} {r:Rv} {v:V} {B:List Addr} (h:RvOk mg K H W σ v r B) (w:∀x,W' x->W x):RvOk mg K H W' σ v r B:=by
 cases r with
 | own o=>exact ⟨h.1.on (DMv.weak w) fun _ _=>rfl,h.2⟩
 | «at» i p=>exact h
theorem Rvs.weak {W':Addr->Prop} {vs:List V} {rs:List Rv} (h:Rvs mg K H W σ vs rs g) (w:∀x,W' x->W x):Rvs mg K H W' σ vs rs g:=
 ⟨fun k r e=>let ⟨v,h1,h2⟩:=h.rv k r e;⟨v,h1,h2.weak w⟩,h.no,h.len,h.fam⟩
theorem zkv:∀{rs:List Rv} {vs:List V} {W:Addr->Prop} {ρ ρ':Rho} {f g:Fp} {os:List O},Sl mg K H W σ ρ f->(∀x,Inn f x->W x)->Rvs mg K H W σ vs rs g->(∀x,Inn g x->W x/\¬Inn f x)->coes ρ rs=some (os,ρ')->
  ∃W' f',Sl mg K H W' σ ρ' f'/\Gv W f W' f'/\∃As,Ows mg K H W' vs os As/\As.Nodup/\∀x∈As,Inn g x
 | [],vs,W,ρ,ρ',f,g,os,s,sb,h,hg,e=>by
  cases e
  cases vs with
  | nil=>exact ⟨W,f,s,.refl sb,[],.nil,List.nodup_nil,fun _ z=>nomatch z⟩
  | cons v vs=>have:=h.len;simp at this
 | r::rs,vs,W,ρ,ρ',f,g,os,s,sb,h,hg,e=>by
  obtain ⟨v,us,rfl,h0,ht⟩:=h.tail;rw[coes] at e
  cases a:coe ρ r with
  | none=>rw[a] at e;cases e
  | some z=>
   obtain ⟨o,ρ1⟩:=z;rw[a] at e;dsimp only at e
   cases b:coes ρ1 rs with
   | none=>rw[b] at e;cases e
   | some z=>
    obtain ⟨os',ρ2⟩:=z;rw[b] at e;cases e;obtain ⟨W1,f1,s1,g1,B,o1,nd1,in1⟩:=zgu s sb h0 a;have hg1:∀x,Inn g x->W1 x/\¬Inn f1 x:=fun x hx=>⟨(g1.more x (hg x hx).1).resolve_left (hg x hx).2,fun z=>(hg x hx).2 (g1.ours x z)⟩
    obtain ⟨W2,f2,s2,g2,As,o2,nd2,in2⟩:=zkv s1 g1.sub (ht.weak g1.less) (fun x ⟨k,hk⟩=>hg1 x ⟨k+1,hk⟩) b;refine ⟨W2,f2,s2,g1.trans g2,B++As,.cons (o1.on (DMv.weak g2.less) fun _ _=>rfl) o2,List.nodup_append.mpr ⟨nd1,nd2,fun x hx y hy z=>?_⟩,fun x hx=>?_⟩
    .subst z;obtain ⟨k,hk⟩:=in2 x hy;exact h.fam.ap 0 (k+1) ∅ x (in1 x hx) hk
    .rcases List.mem_append.mp hx with hx | hx
     .exact ⟨0,in1 x hx⟩
     .obtain ⟨k,hk⟩:=in2 x hx;exact ⟨k+1,hk⟩
theorem zlf:∀{rs:List Rv} {vs:List V} {W:Addr->Prop} {ρ ρ':Rho} {f g:Fp} {os:List O},Sl mg K H W σ ρ f->(∀x,Inn f x->W x)->Rvs mg K H W σ vs rs g->(∀x,Inn g x->W x/\¬Inn f x)->movs ρ rs=some (os,ρ')->
  ∃W' f',Sl mg K H W' σ ρ' f'/\Gv W f W' f'/\∃As,Ows mg K H W' vs os As/\As.Nodup/\∀x∈As,(Inn g x\/Inn f x)/\W' x/\¬Inn f' x
 | [],vs,W,ρ,ρ',f,g,os,s,sb,h,hg,e=>by
  cases e
  cases vs with
  | nil=>exact ⟨W,f,s,.refl sb,[],.nil,List.nodup_nil,fun _ z=>nomatch z⟩
  | cons v vs=>have:=h.len;simp at this
 | r::rs,vs,W,ρ,ρ',f,g,os,s,sb,h,hg,e=>by
  obtain ⟨v,us,rfl,h0,ht⟩:=h.tail;rw[movs] at e
  cases a:mov ρ r with
  | none=>rw[a] at e;cases e
  | some z=>
   obtain ⟨o,ρ1⟩:=z;rw[a] at e;dsimp only at e
   cases b:movs ρ1 rs with
   | none=>rw[b] at e;cases e
   | some z=>
    obtain ⟨os',ρ2⟩:=z;rw[b] at e;cases e;obtain ⟨W1,f1,s1,g1,B,o1,nd1,in1⟩:=zid s sb h0 (fun x hx=>hg x ⟨0,hx⟩) a;have hg1:∀x,Inn g x->W1 x/\¬Inn f1 x:=fun x hx=>⟨(g1.more x (hg x hx).1).resolve_left (hg x hx).2,fun z=>(hg x hx).2 (g1.ours x z)⟩
    obtain ⟨W2,f2,s2,g2,As,o2,nd2,in2⟩:=zlf s1 g1.sub (ht.weak g1.less) (fun x ⟨k,hk⟩=>hg1 x ⟨k+1,hk⟩) b;refine ⟨W2,f2,s2,g1.trans g2,B++As,.cons (o1.on (DMv.weak g2.less) fun _ _=>rfl) o2,List.nodup_append.mpr ⟨nd1,nd2,fun x hx y hy z=>?_⟩,fun x hx=>?_⟩
    .subst z;rcases (in2 x hy).1 with ⟨k,hk⟩ | q
     .rcases (in1 x hx).1 with r | r
      .exact h.fam.ap 0 (k+1) ∅ x r hk
      .exact (hg x ⟨k+1,hk⟩).2 r
     .exact (in1 x hx).2.2 q
    .rcases List.mem_append.mp hx with hx | hx
     .obtain ⟨q1,q2,q3⟩:=in1 x hx;exact ⟨q1.imp (fun z=>⟨0,z⟩) id,(g2.more x q2).resolve_left q3,fun z=>q3 (g2.ours x z)⟩
     .obtain ⟨q1,q2,q3⟩:=in2 x hx;exact ⟨q1.elim (fun ⟨k,hk⟩=>.inl ⟨k+1,hk⟩) fun z=>.inr (g1.ours x z),q2,q3⟩
end
def mkT (os:List O):O:=match lds os with | some ds=>.d (.tuple ds) | none=>.t os
def zay (take:Rho->List Rv->Option (List O×Rho)) (mk:List O->O) (A:AF):EF:=fun ρ=>(A ρ).bind fun rs ρ1 q=>match take ρ1 rs with
 | some (os,ρ2)=>if os.length<=sizeLine then .ok (.own (mk os)) ρ2 q else .bad
 | none=>.bad
def Take (take:Rho->List Rv->Option (List O×Rho)):Prop:=∀{mg:Str->Option Value} {K:PySem.W.Frag} {H:Hp} {σ:St} {rs:List Rv} {vs:List V} {W:Addr->Prop} {ρ ρ':Rho} {f g:Fp} {os:List O},Sl mg K H W σ ρ f->(∀x,Inn f x->W x)->Rvs mg K H W σ vs rs g->(∀x,Inn g x->W x/\¬Inn f x)->take ρ rs=some (os,ρ')->
  ∃W' f',Sl mg K H W' σ ρ' f'/\Gv W f W' f'/\∃As,Ows mg K H W' vs os As/\As.Nodup/\∀x∈As,(Inn g x\/Inn f x)/\W' x/\¬Inn f' x
theorem zjh:Take movs:=@zlf
theorem zeX:Take coes:=fun s sb h hg e=>by
 obtain ⟨W',f',s',g,As,h1,h2,h3⟩:=zkv s sb h hg e;exact ⟨W',f',s',g,As,h1,h2,fun x hx=>⟨.inl (h3 x hx),(g.more x (hg x (h3 x hx)).1).resolve_left (hg x (h3 x hx)).2,fun z=>(hg x (h3 x hx)).2 (g.ours x z)⟩⟩
theorem Gv.mv {A:Addr->Prop} {H:Hp} {W W':Addr->Prop} {f f':Fp} {As:List Addr} (g:Gv W f W' f') (hA:∀x,Inn f x->A x) (s:∀x,A x->W x) (d:∀x,W x->H x≠none) (hAs:∀x∈As,A x/\W' x):Mv A H W (fun x=>Inn f' x\/x∈As) H W':=
 ⟨fun _ _ h _=>h,fun x h=>.inl (g.less x h),fun x h=>(g.more x h).imp (hA x) id,fun x h=>.inl (h.elim (fun z=>hA x (g.ours x z)) fun z=>(hAs x z).1),s,d,fun x h=>h.elim (g.sub x) fun z=>(hAs x z).2,fun x h=>d x (g.less x h)⟩
section
variable {X:Cx} {E:XK}
theorem zos {take:Rho->List Rv->Option (List O×Rho)} (ht:Take take) {A:AF} {σ:St} {H:Hp} {W:Addr->Prop} {ρ:Rho} {f:Fp} {R:List V->Hp->Prop} (ok:Ok X.mg X.K H W σ ρ f)
  (h:match A ρ with
   | .bad=>False
   | .ex c ρ'=>∀H' W' f',Sl X.mg X.K H' W' σ ρ' f'->Mv (Inn f) H W (Inn f') H' W'->XW X.mg X.K E c H'
   | .ok rs ρ1 q=>match take ρ1 rs with
    | none=>False
    | some (os,ρ2)=>∀vs H' W' f' As,Sl X.mg X.K H' W' σ ρ2 f'->Ows X.mg X.K H' W' vs os As->As.Nodup->(∀x∈As,¬Inn f' x)->Mv (Inn f) H W (fun x=>Inn f' x\/x∈As) H' W'->(q=true->∀x,Inn f x->H' x=H x)->R vs H') :
  tRs X.mg X.K E A σ H R:=by
 refine ⟨W,ρ,f,ok, ?_⟩
 cases a:A ρ with
 | bad=>rw[a] at h;exact h
 | ex c ρ'=>rw[a] at h;exact h
 | ok rs ρ1 q=>
  rw[a] at h;intro vs H1 W1 f1 g s1 r1 n1 m1 k1;dsimp only at h
  cases b:take ρ1 rs with
  | none=>rw[b] at h;exact h.elim
  | some z=>
   obtain ⟨os,ρ2⟩:=z;rw[b] at h;obtain ⟨W2,f2,s2,g2,As,o2,nd2,in2⟩:=ht s1 (fun x hx=>m1.sub' x (.inl hx)) r1 (fun x hx=>⟨m1.sub' x (.inr hx),n1 x hx⟩) b;refine h vs H1 W2 f2 As s2 o2 nd2 (fun x hx=>(in2 x hx).2.2) (m1.trans (g2.mv (fun x hx=>.inl hx) m1.sub' m1.dom' fun x hx=>⟨(in2 x hx).1.elim .inr .inl,(in2 x hx).2.1⟩)) k1
theorem zny {take:Rho->List Rv->Option (List O×Rho)} {es:List Expr} {A:AF} {pos:Pos} (ht:Take take) (ha:VA X E es A):VR X E (.List es pos) (zay take .l A):=
 (zsi ha).imp fun σ H Q hx__=>by
  obtain ⟨W,ρ,f,ok,q⟩:=hx__;refine zos ht ok ?_;unfold zay at q
  cases a:A ρ with
  | bad=>rw[a] at q;exact q
  | ex c ρ'=>rw[a] at q;exact q
  | ok rs ρ1 k=>
   rw[a] at q;dsimp only[Re.bind] at q ⊢
   cases b:take ρ1 rs with
   | none=>rw[b] at q;exact False.elim q
   | some z=>
    obtain ⟨os,ρ2⟩:=z;rw[b] at q;dsimp only at q ⊢
    by_cases hz:os.length<=sizeLine
    .rw[if_pos hz] at q;intro vs H' W' f' As s o nd ap m kk;refine ⟨by rw[o.length];exact hz,fun p hp=>?_⟩;have g:Gr H' W' [p] (upd H' p (.lst vs)) (fun x=>W' x\/x∈[p]):=Gr.newO hp;have hpA:p∉As:=fun z=>m.dom' p (m.sub' p (.inr z)) hp
     refine q (.ref p) _ _ f' (p::As) (s.on g.d fun x hx=>g.kept m.dom' (m.sub' x (.inl hx))) ⟨.l zbx (o.on g.d fun x hx=>g.kept m.dom' (m.sub' x (.inr hx))),List.nodup_cons.mpr ⟨hpA,nd⟩⟩ (fun x hx z=>?_) ((m.trans (g.mv m.sub' m.dom')).narrow fun x hx=>?_) fun hq=>g.quiet ok (kk hq)
     .rcases List.mem_cons.mp hx with rfl | hx
      .exact m.dom' x (m.sub' x (.inl z)) hp
      .exact ap x hx z
     .rcases hx with hx | hx
      .exact .inl (.inl hx)
      .rcases List.mem_cons.mp hx with rfl | hx
       .exact .inr List.mem_cons_self
       .exact .inl (.inr hx)
    .rw[if_neg hz] at q;exact False.elim q
theorem Ow.mkT {mg:Str->Option Value} {K:PySem.W.Frag} {H:Hp} {W:Addr->Prop} {p:Addr} {vs:List V} {os:List O} {As:List Addr} (n:¬W p) (h:H p=some (.tup vs)) (o:Ows mg K H W vs os As):Ow mg K H W (.ref p) (mkT os) As:=by
 unfold L2.mkT
 cases e:lds os with
 | none=>exact .t n h o
 | some ds=>
  have:=zlv e
  subst this;obtain ⟨h1,rfl⟩:=o.toD;exact .d (.tup n h h1)
theorem zgj {take:Rho->List Rv->Option (List O×Rho)} {es:List Expr} {A:AF} {k:Nat} {pos:Pos} (ht:Take take) (ha:VA X E es A):VR X E (.Tuple es k pos) (zay take mkT A):=
 (zrL ha).imp fun σ H Q hx__=>by
  obtain ⟨W,ρ,f,ok,q⟩:=hx__;refine zos ht ok ?_;unfold zay at q
  cases a:A ρ with
  | bad=>rw[a] at q;exact q
  | ex c ρ'=>rw[a] at q;exact q
  | ok rs ρ1 k=>
   rw[a] at q;dsimp only[Re.bind] at q ⊢
   cases b:take ρ1 rs with
   | none=>rw[b] at q;exact False.elim q
   | some z=>
    obtain ⟨os,ρ2⟩:=z;rw[b] at q;dsimp only at q ⊢
    by_cases hz:os.length<=sizeLine
    .rw[if_pos hz] at q;intro vs H' W' f' As s o nd ap m kk;refine ⟨by rw[o.length];exact hz,fun p hp=>?_⟩;have g:Gr H' W' [] (upd H' p (.tup vs)) W':=Gr.new hp;exact q (.ref p) _ _ f' As (s.on g.d fun x hx=>g.kept m.dom' (m.sub' x (.inl hx))) ⟨.mkT (fun z=>m.dom' p z hp) zbx (o.on g.d fun x hx=>g.kept m.dom' (m.sub' x (.inr hx))),nd⟩ ap ((m.trans (g.mv m.sub' m.dom')).narrow fun x hx=>.inl hx) fun hq=>g.quiet ok (kk hq)
    .rw[if_neg hz] at q;exact False.elim q
end
section
variable {mg:Str->Option Value} {K:PySem.W.Frag} {H:Hp} {W:Addr->Prop} {v:V} {As:List Addr}
theorem Ow.int {i:Int} (h:Ow mg K H W v ⇑i As):v=.int i:=by cases h with | d h=>cases h;rfl
theorem Ow.bl {b:Bool} (h:Ow mg K H W v (.d (.bool b)) As):v=.bl b:=by cases h with | d h=>cases h;rfl
theorem Ow.str {s:Str} (h:Ow mg K H W v (.d (.str s)) As):v=.str s:=by cases h with | d h=>cases h;rfl
theorem Ow.non (h:Ow mg K H W v (.d .none) As):v=.non:=by cases h with | d h=>cases h;rfl
end
theorem OpR.imp {X:Cx} {f:Value->Value->Sem Value} {r r':R2} (h:OpR X f r) (i:∀x y H Q,r' x y H Q->r x y H Q):OpR X f r':=fun pins s σ H x y v u Q I rx ry q=>h pins s σ H x y v u Q I rx ry (i x y H Q q)
theorem UnR.imp {X:Cx} {f:Value->Sem Value} {r r':V->Hp->VK->Prop} (h:UnR X f r) (i:∀x H Q,r' x H Q->r x H Q):UnR X f r':=fun pins s σ H x v Q I rx q=>h pins s σ H x v Q I rx (i x H Q q)
theorem CallR.imp {X:Cx} {f:Value} {r r':List V->Hp->VK->Prop} (h:CallR X f r) (i:∀x H Q,r' x H Q->r x H Q):CallR X f r':=fun pins s σ H x v Q I rx q=>h pins s σ H x v Q I rx (i x H Q q)
def fI2 (g:Int->Int->Option PyData):O->O->Option O
 | ⇑a,⇑b=>(g a b).map O.d
 | _,_=>none
theorem znX {g:Int->Int->Option PyData} {x y z:O} (h:fI2 g x y=some z):∃a b c,x=⇑a/\y=⇑b/\g a b=some c/\z=.d c:=by
 unfold fI2 at h;split at h
 .rename_i a b
  cases e:g a b with
  | none=>rw[e] at h;cases h
  | some c=>rw[e] at h;cases h;exact ⟨a,b,c,rfl,rfl,e,rfl⟩
 .cases h
instance (i j:Int):Decidable (CMul i j):=decidable_of_iff ((-18446744073709551616 < i/\i < 18446744073709551616)\/(-18446744073709551616 < j/\j < 18446744073709551616)) (by unfold CMul;omega)
instance (i j:Int):Decidable (zkr i j):=decidable_of_iff (0 < j/\j < 1606938044258990275541962092341162602522202993782792835301376) (by unfold zkr;omega)
instance (i j:Int):Decidable (CPow i j):=decidable_of_iff (0<=j/\j<=1000000/\i.natAbs < 18446744073709551616) (by unfold CPow;omega)
def gC (C:Int->Int->Prop) [∀i j,Decidable (C i j)] (f:Int->Int->Int) (a b:Int):Option PyData:=if C a b then some (.int (f a b)) else none
def gB (f:Int->Int->Bool) (a b:Int):Option PyData:=some (.bool (f a b))
def fSub:O->O->Option O:=fI2 fun a b=>some (.int (a - b))
def fMod:O->O->Option O:=fI2 (gC (fun _ j=>0 < j) fun a b=>a % b)
def fDiv:O->O->Option O:=fI2 (gC zkr fun a b=>a / b)
def fPow:O->O->Option O:=fI2 (gC CPow fun a b=>a ^ b.toNat)
def fLt:O->O->Option O:=fI2 (gB fun a b=>decide (a < b))
def fLe:O->O->Option O:=fI2 (gB fun a b=>decide (a<=b))
def fGt:O->O->Option O:=fI2 (gB fun a b=>decide (b < a))
def fGe:O->O->Option O:=fI2 (gB fun a b=>decide (b<=a))
section
variable {X:Cx}
theorem zph {f:Value->Value->Sem Value} {g:Int->Int->V} {d:Int->Int->PyData} (h:OpR X f (rI0 g)) (e:∀a b H W,Dn H W (g a b) (d a b)):OpR X f (rV2 X.mg X.K (fI2 fun a b=>some (d a b))):=h.imp fun x y H Q hx__=>by
 obtain ⟨W,ox,oy,As,Bs,z,o1,o2,dm,hf,q⟩:=hx__;obtain ⟨a,b,c,rfl,rfl,hc,rfl⟩:=znX hf;cases hc;exact ⟨a,b,o1.int,o2.int,q _ H W [] .refl (.d (e a b H W))⟩
theorem zoP {f:Value->Value->Sem Value} {C:Int->Int->Prop} [∀i j,Decidable (C i j)] {g:Int->Int->Int} (h:OpR X f (rI C fun a b=>.int (g a b))):OpR X f (rV2 X.mg X.K (fI2 (gC C g))):=h.imp fun x y H Q hx__=>by
 obtain ⟨W,ox,oy,As,Bs,z,o1,o2,dm,hf,q⟩:=hx__;obtain ⟨a,b,c,rfl,rfl,hc,rfl⟩:=znX hf;unfold gC at hc
 by_cases hC:C a b
 .rw[if_pos hC] at hc;cases hc;exact ⟨a,b,o1.int,o2.int,hC,q _ H W [] .refl ⇑_⟩
 .rw[if_neg hC] at hc;cases hc
theorem zsp:OpR X (binaryOp .Sub) (rV2 X.mg X.K fSub):=zph zqj fun _ _ _ _=>.int _
theorem zsr:OpR X (binaryOp .Mod) (rV2 X.mg X.K fMod):=zoP zrs
theorem zp4:OpR X (binaryOp .FloorDiv) (rV2 X.mg X.K fDiv):=zoP zmr
theorem zrC:OpR X (binaryOp .Pow) (rV2 X.mg X.K fPow):=zoP zrf
theorem zqJ:OpR X (compareOp .Lt) (rV2 X.mg X.K fLt):=zph zl0 fun _ _ _ _=>.bl _
theorem zri:OpR X (compareOp .Gt) (rV2 X.mg X.K fGt):=zph ztQ fun _ _ _ _=>.bl _
end
def fAdd:O->O->Option O
 | ⇑a,⇑b=>some ⇑(a+b)
 | x,y=>match els x,els y with
  | some (true,xs),some (true,ys)=>match lds xs,lds ys with
   | some a,some b=>if a.length+b.length<=sizeLine then some (.l ((a++b).map O.d)) else none
   | _,_=>none
  | _,_=>none
theorem Ow.items {mg:Str->Option Value} {K:PySem.W.Frag} {H:Hp} {W:Addr->Prop} {v:V} {o:O} {As:List Addr} {k:Bool} {os:List O} {ds:List PyData} (h:Ow mg K H W v o As) (e:L2.els o=some (k,os)) (l:lds os=some ds) :
  ∃a vs,v=.ref a/\H a=some (if k then .lst vs else .tup vs)/\Dns H W vs ds:=by
 obtain ⟨a,vs,A,h1,h2,h3,_⟩:=h.els e;rw[zlv l] at h3;exact ⟨a,vs,h1,h2,h3.toD.1⟩
theorem Ow.newL {mg:Str->Option Value} {K:PySem.W.Frag} {H:Hp} {W:Addr->Prop} {p:Addr} {vs:List V} {ds:List PyData} (hp:H p=none) (h:Dns H W vs ds):Ow mg K (upd H p (.lst vs)) (fun x=>W x\/x∈[p]) (.ref p) (.l (ds.map O.d)) [p]:=
 .l zbx (.ofD (h.on (Gr.newO hp).d))
section
variable {X:Cx}
theorem znD:OpR X (binaryOp .Add) (rV2 X.mg X.K fAdd):=(op_add.or zq2).imp fun x y H Q hx__=>by
 obtain ⟨W,ox,oy,As,Bs,z,o1,o2,dm,hf,q⟩:=hx__;unfold fAdd at hf;split at hf
 .cases hf;exact .inl ⟨_,_,o1.int,o2.int,q _ H W [] .refl ⇑_⟩
 .split at hf
  .rename_i xs ys e1 e2;split at hf
   .rename_i a b l1 l2
    by_cases hz:a.length+b.length<=sizeLine
    .rw[if_pos hz] at hf;cases hf;obtain ⟨p1,v1,rfl,h1,d1⟩:=o1.items e1 l1;obtain ⟨p2,v2,rfl,h2,d2⟩:=o2.items e2 l2;exact .inr ⟨p1,p2,v1,v2,rfl,rfl,h1,h2,by rw[d1.length,d2.length];exact hz,fun p hp=>q _ _ _ _ (.newO hp) (.newL hp (d1.app d2))⟩
    .rw[if_neg hz] at hf;cases hf
   .cases hf
  .cases hf
def fMul:O->O->Option O
 | ⇑a,⇑b=>if CMul a b then some ⇑(a * b) else none
 | x,⇑k=>match els x with
  | some (true,xs)=>match lds xs with
   | some a=>if -9223372036854775808<=k/\k < 9223372036854775808/\a.length * k.toNat<=sizeLine then some (.l ((List.replicate k.toNat a).flatten.map O.d)) else none
   | none=>none
  | _=>none
 | _,_=>none
theorem Dns.rep {P:Addr->Prop} {H:Hp} {xs:List V} {ds:List PyData} (h:Dns H P xs ds):∀k:Nat,Dns H P (List.replicate k xs).flatten (List.replicate k ds).flatten
 | 0=>.nil
 | k+1=>by rw[List.replicate_succ,List.replicate_succ,List.flatten_cons,List.flatten_cons];exact h.app (Dns.rep h k)
theorem zqg:OpR X (binaryOp .Mult) (rV2 X.mg X.K fMul):=(op_mul.or zrF).imp fun x y H Q hx__=>by
 obtain ⟨W,ox,oy,As,Bs,z,o1,o2,dm,hf,q⟩:=hx__;unfold fMul at hf;split at hf
 .rename_i a b
  by_cases hC:CMul a b
  .rw[if_pos hC] at hf;cases hf;exact .inl ⟨_,_,o1.int,o2.int,hC,q _ H W [] .refl ⇑_⟩
  .rw[if_neg hC] at hf;cases hf
 .split at hf
  .rename_i k _ _ xs e1;split at hf
   .rename_i a l1
    by_cases hz:-9223372036854775808<=k/\k < 9223372036854775808/\a.length * k.toNat<=sizeLine
    .rw[if_pos hz] at hf;cases hf;obtain ⟨p1,v1,rfl,h1,d1⟩:=o1.items e1 l1;exact .inr ⟨p1,k,v1,rfl,o2.int,h1,hz.1,hz.2.1,by rw[d1.length];exact hz.2.2,fun p hp=>q _ _ _ _ (.newO hp) (.newL hp (d1.rep _))⟩
    .rw[if_neg hz] at hf;cases hf
   .cases hf
  .cases hf
 .cases hf
def fEq (neg:Bool) (x y:O):Option O:=match fz x,fz y with
 | some a,some b=>if SeqAt.shaped a&&SeqAt.shaped b then some (.d (.bool (if neg then !PyData.eqv a b else PyData.eqv a b))) else none
 | _,_=>none
theorem zrz (hu:X.A.units+64 < cLine):OpR X (compareOp .Eq) (rV2 X.mg X.K (fEq false)):=(zrK hu).imp fun x y H Q hx__=>by
 obtain ⟨W,ox,oy,As,Bs,z,o1,o2,dm,hf,q⟩:=hx__;unfold fEq at hf;split at hf
 .rename_i a b e1 e2
  by_cases hz:(SeqAt.shaped a&&SeqAt.shaped b)=true
  .rw[if_pos hz] at hf;cases hf;rw[Bool.and_eq_true] at hz;exact eqD (o1.plain e1) (o2.plain e2) hz.1 hz.2 (q _ H W [] .refl (.d (.bl _)))
  .rw[if_neg hz] at hf;cases hf
 .cases hf
theorem zkd (hu:X.A.units+64 < cLine):OpR X (compareOp .NotEq) (rV2 X.mg X.K (fEq true)):=(zqm hu).imp fun x y H Q hx__=>by
 obtain ⟨W,ox,oy,As,Bs,z,o1,o2,dm,hf,q⟩:=hx__;unfold fEq at hf;split at hf
 .rename_i a b e1 e2
  by_cases hz:(SeqAt.shaped a&&SeqAt.shaped b)=true
  .rw[if_pos hz] at hf;cases hf;rw[Bool.and_eq_true] at hz;exact eqD (o1.plain e1) (o2.plain e2) hz.1 hz.2 (q _ H W [] .refl (.d (.bl _)))
  .rw[if_neg hz] at hf;cases hf
 .cases hf
def isN:O->Bool
 | .d .none=>true
 | _=>false
def isZ:O->Bool
 | .z=>true
 | _=>false
def fIs (neg:Bool) (x y:O):Option O:=if isN y&&!isZ x then some (.d (.bool (if neg then !isN x else isN x))) else none
theorem Ow.nonIff {mg:Str->Option Value} {K:PySem.W.Frag} {H:Hp} {W:Addr->Prop} {v:V} {o:O} {As:List Addr} (h:Ow mg K H W v o As) (nz:isZ o=false):decide (v=.non)=isN o:=by
 cases h with
 | z=>cases nz
 | d h=>cases h<;>first | rfl | (apply decide_eq_false;intro z;cases z)
 | l=>apply decide_eq_false;intro z;cases z
 | t=>apply decide_eq_false;intro z;cases z
 | x=>apply decide_eq_false;intro z;cases z
 | g=>apply decide_eq_false;intro z;cases z
 | q=>apply decide_eq_false;intro z;cases z
theorem znx {neg:Bool} {x y z:O} (h:fIs neg x y=some z):y=.d .none/\isZ x=false/\z=.d (.bool (if neg then !isN x else isN x)):=by
 unfold fIs at h
 by_cases hc:(isN y&&!isZ x)=true
 .rw[if_pos hc] at h;cases h;rw[Bool.and_eq_true] at hc;refine ⟨?_,by simpa using hc.2,rfl⟩
  cases y with
  | d p=>cases p<;>first | rfl | cases hc.1
  | _=>cases hc.1
 .rw[if_neg hc] at h;cases h
theorem znw:OpR X (compareOp .Is) (rV2 X.mg X.K (fIs false)):=op_isN.imp fun x y H Q hx__=>by
 obtain ⟨W,ox,oy,As,Bs,z,o1,o2,dm,hf,q⟩:=hx__;obtain ⟨rfl,nz,rfl⟩:=znx hf;refine ⟨o2.non, ?_⟩;rw[o1.nonIff nz];exact q _ H W [] .refl (.d (.bl _))
theorem zkB:OpR X (compareOp .IsNot) (rV2 X.mg X.K (fIs true)):=op_notN.imp fun x y H Q hx__=>by
 obtain ⟨W,ox,oy,As,Bs,z,o1,o2,dm,hf,q⟩:=hx__;obtain ⟨rfl,nz,rfl⟩:=znx hf;refine ⟨o2.non, ?_⟩;rw[o1.nonIff nz];exact q _ H W [] .refl (.d (.bl _))
end
def gRet {α:Type} (a:α):Rho->Re α:=fun ρ=>.ok a ρ true
def zb5 {α β:Type} (G:Rho->Re α) (F:α->Rho->Re β):Rho->Re β:=fun ρ=>(G ρ).bind fun a ρ1 q1=>(F a ρ1).bind fun b ρ2 q2=>.ok b ρ2 (q1&&q2)
def eSc {α:Type} (dec:O->Option α) (A:EF):Rho->Re α:=fun ρ=>(A ρ).bind fun r ρ' q=>match vn ρ' r with
 | some o=>match dec o with
  | some a=>.ok a ρ' q
  | none=>.bad
 | none=>.bad
def decI:O->Option Int
 | ⇑i=>some i
 | _=>none
def decB:O->Option Bool
 | .d (.bool b)=>some b
 | _=>none
def eOfB (G:TF):EF:=fun ρ=>(G ρ).bind fun b ρ' q=>.ok (.own (.d (.bool b))) ρ' q
section
variable {mg:Str->Option Value} {K:PySem.W.Frag} {E:XK} {σ:St} {H:Hp}
theorem Ok.next {W:Addr->Prop} {ρ':Rho} {f f':Fp} {H':Hp} {W':Addr->Prop} {A:Addr->Prop} (s:Sl mg K H' W' σ ρ' f') (m:Mv (Inn f) H W A H' W') (h:∀x,Inn f' x->A x):Ok mg K H' W' σ ρ' f':=⟨s,fun x hx=>m.sub' x (h x hx),m.dom'⟩
theorem zgS {W W1:Addr->Prop} {ρ:Rho} {f f1:Fp} {H1 H2:Hp} {A W2:Addr->Prop} {q1 q2:Bool} (ok:Ok mg K H W σ ρ f) (k1:q1=true->∀x,Inn f x->H1 x=H x) (m2:Mv (Inn f1) H1 W1 A H2 W2) (k2:q2=true->∀x,Inn f1 x->H2 x=H1 x) :
  (q1&&q2)=true->∀x,Inn f x->H2 x=H x:=fun hq x hx=>by
 rw[Bool.and_eq_true] at hq;have e1:=k1 hq.1 x hx
 by_cases i1:Inn f1 x
 .exact (k2 hq.2 x i1).trans e1
 .cases e:H x with
  | none=>exact absurd e (ok.dom x (ok.sub x hx))
  | some o=>
   rw[e] at e1;exact m2.same x o e1 i1
theorem tG.bind {α β:Type} {G:Rho->Re α} {F:α->Rho->Re β} {Q:β->Hp->Prop} (h:tG mg K E (zb5 G F) σ H Q):tG mg K E G σ H fun a H1=>tG mg K E (F a) σ H1 Q:=by
 obtain ⟨W,ρ,f,ok,q⟩:=h;refine ⟨W,ρ,f,ok, ?_⟩;unfold zb5 at q
 cases a:G ρ with
 | bad=>rw[a] at q;exact q
 | ex c ρ'=>rw[a] at q;exact q
 | ok x ρ1 q1=>
  rw[a] at q;intro H1 W1 f1 s1 m1 k1;refine ⟨W1,ρ1,f1,.next s1 m1 fun _ z=>z, ?_⟩;dsimp only[Re.bind] at q
  cases b:F x ρ1 with
  | bad=>rw[b] at q;exact q
  | ex c ρ'=>rw[b] at q;exact fun H2 W2 f2 s2 m2=>q H2 W2 f2 s2 (m1.trans m2)
  | ok y ρ2 q2=>rw[b] at q;exact fun H2 W2 f2 s2 m2 k2=>q H2 W2 f2 s2 (m1.trans m2) (zgS ok k1 m2 k2)
def zis {α:Type} (G:Rho->Re α) (F:α->EF):EF:=zb5 G F
theorem tG.then {α:Type} {G:Rho->Re α} {F:α->EF} {Q:VK} (h:tR mg K E (zis G F) σ H Q):tG mg K E G σ H fun a H1=>tR mg K E (F a) σ H1 Q:=by
 obtain ⟨W,ρ,f,ok,q⟩:=h;refine ⟨W,ρ,f,ok, ?_⟩;unfold zis zb5 at q
 cases a:G ρ with
 | bad=>rw[a] at q;exact q
 | ex c ρ'=>rw[a] at q;exact q
 | ok x ρ1 q1=>
  rw[a] at q;intro H1 W1 f1 s1 m1 k1;refine ⟨W1,ρ1,f1,.next s1 m1 fun _ z=>z, ?_⟩;dsimp only[Re.bind] at q
  cases b:F x ρ1 with
  | bad=>rw[b] at q;exact q
  | ex c ρ'=>rw[b] at q;exact fun H2 W2 f2 s2 m2=>q H2 W2 f2 s2 (m1.trans m2)
  | ok y ρ2 q2=>rw[b] at q;exact fun v H2 W2 f2 B s2 r2 n2 m2 k2=>q v H2 W2 f2 B s2 r2 n2 (m1.trans m2) (zgS ok k1 m2 k2)
theorem tG.ret {α:Type} {a:α} {Q:α->Hp->Prop} (h:tG mg K E (gRet a) σ H Q):Q a H:=by
 obtain ⟨W,ρ,f,ok,q⟩:=h;exact q H W f ok.s (.refl ok.sub ok.dom) fun _ _ _=>rfl
theorem zof {α:Type} {dec:O->Option α} {val:α->V} (hd:∀{H:Hp} {W:Addr->Prop} {v:V} {o:O} {As:List Addr} {a:α},Ow mg K H W v o As->dec o=some a->v=val a) {G:EF} {Q:α->Hp->Prop} (h:tG mg K E (eSc dec G) σ H Q) :
  tR mg K E G σ H fun x H'=>∃k,x=val k/\Q k H':=by
 obtain ⟨W,ρ,f,ok,q⟩:=h;refine ⟨W,ρ,f,ok, ?_⟩;unfold eSc at q
 cases a:G ρ with
 | bad=>rw[a] at q;exact q
 | ex c ρ'=>rw[a] at q;exact q
 | ok r ρ' q'=>
  rw[a] at q;intro v H' W' f' B s rv n m k;dsimp only[Re.bind] at q
  cases e:vn ρ' r with
  | none=>rw[e] at q;exact False.elim q
  | some o=>
   rw[e] at q;dsimp only at q;obtain ⟨a1,a2⟩:=zc0 e;obtain ⟨_,ow,_⟩:=s.vw rv a1 a2
   cases e':dec o with
   | none=>rw[e'] at q;exact False.elim q
   | some a=>rw[e'] at q;exact ⟨a,hd ow e',q H' W' f' s (m.narrow fun x hx=>.inl hx) k⟩
theorem zlX {H:Hp} {W:Addr->Prop} {v:V} {o:O} {As:List Addr} {a:Int} (h:Ow mg K H W v o As) (e:decI o=some a):v=.int a:=by
 unfold decI at e;split at e
 .cases e;exact h.int
 .cases e
theorem zpv {H:Hp} {W:Addr->Prop} {v:V} {o:O} {As:List Addr} {a:Bool} (h:Ow mg K H W v o As) (e:decB o=some a):v=.bl a:=by
 unfold decB at e;split at e
 .cases e;exact h.bl
 .cases e
theorem zmd {G:TF} {Q:VK} (h:tR mg K E (eOfB G) σ H Q):tG mg K E G σ H fun b H1=>Q (.bl b) H1:=by
 obtain ⟨W,ρ,f,ok,q⟩:=h;refine ⟨W,ρ,f,ok, ?_⟩;unfold eOfB at q
 cases a:G ρ with
 | bad=>rw[a] at q;exact q
 | ex c ρ'=>rw[a] at q;exact q
 | ok b ρ' q'=>
  rw[a] at q;exact fun H' W' f' s m k=>q (.bl b) H' W' f' [] s ⟨.d (.bl b),List.nodup_nil⟩ (fun x z=>nomatch z) (m.narrow fun x hx=>hx.resolve_right fun z=>nomatch z) k
theorem twoG {α:Type} {A:EF} {G:Rho->Re α} {R:V->α->Hp->Prop} {W:Addr->Prop} {ρ:Rho} {f:Fp} (ok:Ok mg K H W σ ρ f)
  (h:match A ρ with
   | .bad=>False
   | .ex c ρ'=>∀H' W' f',Sl mg K H' W' σ ρ' f'->Mv (Inn f) H W (Inn f') H' W'->XW mg K E c H'
   | .ok ra ρ1 q1=>match G ρ1 with
    | .bad=>False
    | .ex c ρ'=>∀H' W' f',Sl mg K H' W' σ ρ' f'->Mv (Inn f) H W (Inn f') H' W'->XW mg K E c H'
    | .ok b ρ2 q2=>pok ρ1 q2 ra=true/\∀v H' W' f' C,Sl mg K H' W' σ ρ2 f'->RvOk mg K H' W' σ v ra C->(∀x∈C,¬Inn f' x)->
      Mv (Inn f) H W (fun x=>Inn f' x\/x∈C) H' W'->((q1&&q2)=true->∀x,Inn f x->H' x=H x)->R v b H') :
  tR mg K E A σ H fun x H1=>tG mg K E G σ H1 fun y H2=>R x y H2:=by
 refine ⟨W,ρ,f,ok, ?_⟩
 cases a:A ρ with
 | bad=>rw[a] at h;exact h
 | ex c ρ'=>rw[a] at h;exact h
 | ok ra ρ1 q1=>
  rw[a] at h;intro v H1 W1 f1 C s1 r1 n1 m1 k1;refine ⟨W1,ρ1,f1,.next s1 m1 fun x hx=>.inl hx, ?_⟩;have hC:∀x∈C,W1 x/\¬Inn f1 x:=fun x hx=>⟨m1.sub' x (.inr hx),n1 x hx⟩
  dsimp only at h
  cases b:G ρ1 with
  | bad=>rw[b] at h;exact h
  | ex c ρ'=>
   rw[b] at h;exact fun H2 W2 f2 s2 m2=>h H2 W2 f2 s2 (m1.trans (m2.wide (fun x hx=>.inl hx) m1.sub'))
  | ok y ρ2 q2=>
   rw[b] at h;obtain ⟨hp,h⟩:=h;intro H2 W2 f2 s2 m2 k2;refine h v H2 W2 f2 C s2 (r1.on s1 hC m2 k2 hp) (fun x hx z=>m2.apart (hC x hx).1 (hC x hx).2 z) (m1.trans ⟨fun b o e n=>m2.same b o e fun z=>n (.inl z),m2.less,fun x w=>(m2.more x w).imp .inl id,fun x w=>?_,m1.sub',m2.dom,fun x w=>?_,m2.dom'⟩) (zgS ok k1 m2 k2)
   .exact w.elim (fun w=>(m2.ours x w).imp .inl id) fun w=>.inl (.inr w)
   .exact w.elim (m2.sub' x) fun w=>(m2.hand (hC x w).1 (hC x w).2).1
end
section
variable {X:Cx} {E:XK}
def eAnd (A B:EF):EF:=eOfB (zb5 (eSc decB A) fun c=>if c then eSc decB B else gRet false)
def eOr (A B:EF):EF:=eOfB (zb5 (eSc decB A) fun c=>if c then gRet true else eSc decB B)
def eNot (A:EF):EF:=eOfB (zb5 (eSc decB A) fun c=>gRet (!c))
theorem znH {op a pos} {A:EF} (h:VR X E a A):VR X E (.BoolOp op [a] pos) A:=zr5 h
theorem toB {B:EF} {σ:St} {H:Hp} {Q:Bool->Hp->Prop} (h:tG X.mg X.K E (eSc decB B) σ H Q):tR X.mg X.K E B σ H fun x H'=>∃b,x=.bl b/\Q b H':=zof zpv h
theorem tR.mono {mg:Str->Option Value} {K:PySem.W.Frag} {G:EF} {σ:St} {H:Hp} {Q Q':VK} (h:tR mg K E G σ H Q) (i:∀v H,Q v H->Q' v H):tR mg K E G σ H Q':=by
 obtain ⟨W,ρ,f,ok,q⟩:=h;refine ⟨W,ρ,f,ok, ?_⟩
 cases a:G ρ with
 | bad=>rw[a] at q;exact q
 | ex c ρ'=>rw[a] at q;exact q
 | ok r ρ1 q1=>rw[a] at q;exact fun v H' W' f' B s r n m k=>i v H' (q v H' W' f' B s r n m k)
theorem tG.mono {α:Type} {mg:Str->Option Value} {K:PySem.W.Frag} {G:Rho->Re α} {σ:St} {H:Hp} {Q Q':α->Hp->Prop} (h:tG mg K E G σ H Q) (i:∀v H,Q v H->Q' v H):tG mg K E G σ H Q':=by
 obtain ⟨W,ρ,f,ok,q⟩:=h;refine ⟨W,ρ,f,ok, ?_⟩
 cases a:G ρ with
 | bad=>rw[a] at q;exact q
 | ex c ρ'=>rw[a] at q;exact q
 | ok r ρ1 q1=>rw[a] at q;exact fun H' W' f' s m k=>i r H' (q H' W' f' s m k)
theorem zqI {a b rest pos} {A B:EF} (ha:VR X E a A) (hb:VR X E (.BoolOp .And (b::rest) pos) B):VR X E (.BoolOp .And (a::b::rest) pos) (eAnd A B):=(zsm ha hb).imp fun σ H Q h=>by
 refine tR.mono (toB (tG.bind (zmd h))) fun v H1 ⟨c,e,q⟩=>⟨c,e, ?_⟩
 cases c with
 | true=>exact tR.mono (toB q) fun v H2 ⟨b,e,q⟩=>by rw[e];exact q
 | false=>exact tG.ret (a:=false) (Q:=fun b H1=>Q (.bl b) H1) q
theorem zqh {a b rest pos} {A B:EF} (ha:VR X E a A) (hb:VR X E (.BoolOp .Or (b::rest) pos) B):VR X E (.BoolOp .Or (a::b::rest) pos) (eOr A B):=(ztK ha hb).imp fun σ H Q h=>by
 refine tR.mono (toB (tG.bind (zmd h))) fun v H1 ⟨c,e,q⟩=>⟨c,e, ?_⟩
 cases c with
 | false=>exact tR.mono (toB q) fun v H2 ⟨b,e,q⟩=>by rw[e];exact q
 | true=>exact tG.ret (a:=true) (Q:=fun b H1=>Q (.bl b) H1) q
def zdM (A B C:EF) (p q:Int->Int->Bool):TF:=zb5 (eSc decI A) fun a=>zb5 (eSc decI B) fun b=>if p a b then zb5 (eSc decI C) fun c=>gRet (q b c) else gRet false
theorem toI {B:EF} {σ:St} {H:Hp} {Q:Int->Hp->Prop} (h:tG X.mg X.K E (eSc decI B) σ H Q):tR X.mg X.K E B σ H fun x H'=>∃b,x=.int b/\Q b H':=zof zlX h
theorem zjE {A B C:EF} {p q:Int->Int->Bool} {σ:St} {H:Hp} {Q:VK} (h:tG X.mg X.K E (zdM A B C p q) σ H fun b H1=>Q (.bl b) H1) :
  zku (rI0 fun i j=>.bl (p i j)) (rI0 fun i j=>.bl (q i j)) (tR X.mg X.K E A) (tR X.mg X.K E B) (tR X.mg X.K E C) σ H Q:=by
 refine tR.mono (toI (tG.bind h)) fun v H1 ⟨i,e,h1⟩=>tR.mono (toI (tG.bind h1)) fun u H2 hx__=>?_
 obtain ⟨j,e',h2⟩:=hx__;refine ⟨i,j,e,e',_,rfl, ?_⟩
 cases hp:p i j with
 | true=>
  rw[hp] at h2;exact tR.mono (toI (tG.bind h2)) fun w H3 ⟨k,e'',h3⟩=>⟨j,k,e',e'',tG.ret (a:=q j k) (Q:=fun b H1=>Q (.bl b) H1) h3⟩
 | false=>
  rw[hp] at h2;exact tG.ret (a:=false) (Q:=fun b H1=>Q (.bl b) H1) h2
theorem znn {op op':CmpOp} {a b c:Expr} {pos:Pos} {A B C:EF} {p q:Int->Int->Bool} (ho:OpR X (compareOp op) (rI0 fun i j=>.bl (p i j))) (ho':OpR X (compareOp op') (rI0 fun i j=>.bl (q i j))) (ha:VR X E a A) (hb:VR X E b B) (hc:VR X E c C)
  (hm:lastMarks [op,op'] [b,c]=false:=by with_unfolding_all rfl):VR X E (.Compare a [op,op'] [b,c] pos) (eOfB (zdM A B C p q)):=(znl ho ho' ha hb hc hm).imp fun σ H Q h=>zjE (zmd h)
theorem znr {op op':CmpOp} {a b c:Expr} {pos:Pos} {A B C:EF} {p q:Int->Int->Bool} (ho:OpR X (compareOp op) (rI0 fun i j=>.bl (p i j))) (ho':OpR X (compareOp op') (rI0 fun i j=>.bl (q i j))) (ha:VR X E a A) (hb:VR X E b B) (hc:VR X E c C)
  (hm:lastMarks [op,op'] [b,c]=false:=by with_unfolding_all rfl):VT X E (.Compare a [op,op'] [b,c] pos) (zdM A B C p q):=(zmq ho ho' ha hb hc hm).imp fun σ H Q h=>zjE (tG.mono h fun b H1 q=>⟨b,rfl,q⟩)
def gAnd (S T:TF):TF:=zb5 S fun c=>if c then T else gRet false
def gOr (S T:TF):TF:=zb5 S fun c=>if c then gRet true else T
def gNot (S:TF):TF:=zb5 S fun c=>gRet (!c)
abbrev VW (X:Cx) (E:XK) (e:Expr) (G:TF):Prop:=PW X e (tT X.mg X.K E G)
theorem PW.imp {X:Cx} {e:Expr} {t t':TT} (h:PW X e t) (i:∀σ H Q,t' σ H Q->t σ H Q):PW X e t':=fun whole pins s σ H Q I q=>h whole pins s σ H Q I (i σ H Q q)
theorem zpQ {a pos} {S:TF} (ha:VT X E a S):VW X E (.BoolOp .And [a] pos) S:=zpu ha
theorem zqH {a pos} {S:TF} (ha:VT X E a S):VW X E (.BoolOp .Or [a] pos) S:=zqU ha
theorem zrj {a b rest pos} {S T:TF} (ha:VT X E a S) (hb:VW X E (.BoolOp .And (b::rest) pos) T):VW X E (.BoolOp .And (a::b::rest) pos) (gAnd S T):=(zrx ha hb).imp fun σ H Q h=>tG.mono (tG.bind h) fun c H1 q=>by
 cases c with
 | true=>exact q
 | false=>exact tG.ret q
theorem ztq {a b rest pos} {S T:TF} (ha:VT X E a S) (hb:VW X E (.BoolOp .Or (b::rest) pos) T):VW X E (.BoolOp .Or (a::b::rest) pos) (gOr S T):=(zuh ha hb).imp fun σ H Q h=>tG.mono (tG.bind h) fun c H1 q=>by
 cases c with
 | false=>exact q
 | true=>exact tG.ret q
theorem vt_w {e:Expr} {S:TF} (h:VW X E e S):VT X E e S:=PW.pt h
theorem zr7 {a pos} {S:TF} (ha:VT X E a S):VT X E (.UnaryOp .Not a pos) (gNot S):=(zr1 ha).imp fun σ H Q h=>tG.mono (tG.bind h) fun c H1 q=>tG.ret q
def trV:O->Option Bool
 | .d (.bool b)=>some b
 | ⇑i=>some (i != 0)
 | .d .none=>some false
 | .d (.str s)=>if s.length<=sizeLine then some ((s.length:Int) != 0) else none
 | o=>match els o with
  | some (_,os)=>some (!os.isEmpty)
  | none=>none
theorem zq0 {mg:Str->Option Value} {K:PySem.W.Frag} {H:Hp} {W:Addr->Prop} {v:V} {o:O} {As:List Addr} {b:Bool} (h:Ow mg K H W v o As) (e:trV o=some b):TruV K v H b:=by
 unfold trV at e;split at e
 .cases e;rw[h.bl];exact rfl
 .cases e;rw[h.int];exact rfl
 .cases e;rw[h.non];exact rfl
 .rename_i s
  by_cases hz:s.length<=sizeLine
  .rw[if_pos hz] at e;cases e;rw[h.str];exact ⟨hz,rfl⟩
  .rw[if_neg hz] at e;cases e
 .split at e
  .rename_i k os q;cases e;obtain ⟨a,vs,A,rfl,h2,h3,_⟩:=h.els q
   have:vs.isEmpty=os.isEmpty:=by
    have:=h3.length
    cases vs<;>cases os<;>first | rfl | simp at this
   cases k with
   | true=>exact .inl ⟨vs,SqL.of h2,by rw[this]⟩
   | false=>exact .inr (.inl ⟨vs,SqT.of h2,by rw[this]⟩)
  .cases e
theorem zrd {a:Expr} {A:EF} (ha:VR X E a A) (he:∀whole,isTrue a X.env whole=(do let v <-whole;standAt a.pos;holding [v] (truthy v))):VT X E a (eSc trV A):=(zmv ha he).imp fun σ H Q h=>by
 obtain ⟨W,ρ,f,ok,q⟩:=h;refine ⟨W,ρ,f,ok, ?_⟩;unfold eSc at q
 cases a:A ρ with
 | bad=>rw[a] at q;exact q
 | ex c ρ'=>rw[a] at q;exact q
 | ok r ρ' q'=>
  rw[a] at q;intro v H' W' f' B s rv n m k;dsimp only[Re.bind] at q
  cases e:vn ρ' r with
  | none=>rw[e] at q;exact False.elim q
  | some o=>
   rw[e] at q;dsimp only at q;obtain ⟨a1,a2⟩:=zc0 e;obtain ⟨_,ow,_⟩:=s.vw rv a1 a2
   cases e':trV o with
   | none=>rw[e'] at q;exact False.elim q
   | some b=>rw[e'] at q;exact ⟨b,zq0 ow e',q H' W' f' s (m.narrow fun x hx=>.inl hx) k⟩
def eIf (S:TF) (A B:EF):EF:=zis S fun c=>if c then A else B
theorem ztA {c a b:Expr} {pos:Pos} {S:TF} {A B:EF} (hc:VT X E c S) (ha:VR X E a A) (hb:VR X E b B):VR X E (.IfExp c a b pos) (eIf S A B):=(zmQ hc ha hb).imp fun σ H Q h=>tG.mono (tG.then h) fun c H1 q=>by
 cases c<;>exact q
end
def zeD (r:Rv) (k:Nat):O->Option Rv
 | .z=>none
 | .d x=>some (.own (.d x))
 | .x c=>some (.own (.x c))
 | .g c=>some (.own (.g c))
 | .q c=>some (.own (.q c))
 | o=>match r with
  | .own _=>some (.own o)
  | .at i p=>some (.at i (p++[k]))
def fIxS:O->Int->Option O
 | .d (.str s),i=>if s.length<=sizeLine then (atI s.cps.toList i).map fun c=>.d (.str ⟨#[c]⟩) else none
 | .q xs,i=>match atI xs i with
  | some (.int n)=>some ⇑n
  | _=>none
 | _,_=>none
def gIx (ρ:Rho) (r:Rv) (i:Int):Option Rv:=match vn ρ r with
 | some o=>match els o with
  | some (_,os)=>match ixN os.length i with
   | some k=>match os[k]? with
    | some c=>zeD r k c
    | none=>none
   | none=>none
  | none=>(fIxS o i).map Rv.own
 | none=>none
def eIx (A B:EF):EF:=fun ρ=>(A ρ).bind fun ra ρ1 q1=>(eSc decI B ρ1).bind fun i ρ2 q2=>if pok ρ1 q2 ra then match gIx ρ2 ra i with
 | some r=>.ok r ρ2 (q1&&q2)
 | none=>.bad
 else .bad
section
variable {mg:Str->Option Value} {K:PySem.W.Frag} {H:Hp} {W:Addr->Prop} {σ:St} {ρ:Rho} {f:Fp}
theorem zoe {r r':Rv} {k:Nat} {c:O} {a:Addr} {vs:List V} {u:V} {C A:List Addr} (hr:RvOk mg K H W σ (.ref a) r C) (hv:H a=some (.lst vs)\/H a=some (.tup vs)) (hk:vs[k]? = some u) (ou:Ow mg K H W u c A) (hA:∀o,r=.own o->A.Sublist C) (e:zeD r k c=some r') :
  ∃B,RvOk mg K H W σ u r' B/\∀x∈B,x∈C:=by
 unfold zeD at e;split at e
 .cases e
 .cases e;cases ou with | d h=>exact ⟨[],⟨.d h,List.nodup_nil⟩,fun _ z=>nomatch z⟩
 .cases e;cases ou with | x h1 h2 h3 h4=>exact ⟨[],⟨.x h1 h2 h3 h4,List.nodup_nil⟩,fun _ z=>nomatch z⟩
 .cases e;cases ou with | g h1 h2=>exact ⟨[],⟨.g h1 h2,List.nodup_nil⟩,fun _ z=>nomatch z⟩
 .cases e;cases ou with | q h1=>exact ⟨[],⟨.q h1,List.nodup_nil⟩,fun _ z=>nomatch z⟩
 .cases r with
  | own o=>cases e;exact ⟨A,⟨ou,hr.2.sublist (hA o rfl)⟩,fun x hx=>(hA o rfl).subset hx⟩
  | «at» i p=>
   cases e;obtain ⟨h1,w,h2,h3⟩:=hr;exact ⟨[],⟨rfl,w,h2,h3.app ⟨a,vs,u,rfl,hv,hk,rfl⟩⟩,fun _ z=>nomatch z⟩
theorem Sl.vw2 {r:Rv} {v:V} {B:List Addr} {o:O} (s:Sl mg K H W σ ρ f) (h:RvOk mg K H W σ v r B) (e:L2.vw ρ r=some o) (nz:o≠.z):∃C,Ow mg K H W v o C/\(∀u,r=.own u->C=B):=by
 cases r with
 | own u=>cases e;exact ⟨B,h.1,fun _ _=>rfl⟩
 | «at» i p=>obtain ⟨C,h1,_⟩:=s.vw h e nz;exact ⟨C,h1,fun u z=>nomatch z⟩
end
section
variable {X:Cx} {E:XK}
theorem zs7 {a b:Expr} {A B:EF} {pos:Pos} (ha:VR X E a A) (hb:VR X E b B) (hs:zlD b):VR X E (.Subscript a b pos) (eIx A B):=(ztr zqL ha hb hs).imp fun σ H Q hx__=>by
 obtain ⟨W,ρ,f,ok,q⟩:=hx__;have main:tR X.mg X.K E A σ H fun x H1=>tG X.mg X.K E (eSc decI B) σ H1 fun i H2=>rIx X.K x (.int i) H2 Q:=by
  refine twoG ok ?_;unfold eIx at q
  cases a:A ρ with
  | bad=>rw[a] at q;exact q
  | ex c ρ'=>rw[a] at q;exact q
  | ok ra ρ1 q1=>
   rw[a] at q;dsimp only[Re.bind] at q ⊢
   cases b:eSc decI B ρ1 with
   | bad=>rw[b] at q;exact q
   | ex c ρ'=>rw[b] at q;exact q
   | ok i ρ2 q2=>
    rw[b] at q;dsimp only at q ⊢
    by_cases hp:pok ρ1 q2 ra=true
    .rw[if_pos hp] at q;refine ⟨hp,fun v H' W' f' C s r n m k=>?_⟩
     cases e0:gIx ρ2 ra i with
     | none=>rw[e0] at q;exact False.elim q
     | some r'=>
      rw[e0] at q;unfold gIx at e0
      cases e1:vn ρ2 ra with
      | none=>rw[e1] at e0;cases e0
      | some o=>
       rw[e1] at e0;dsimp only at e0;obtain ⟨a1,a2⟩:=zc0 e1;obtain ⟨D,ow,hD⟩:=s.vw2 r a1 a2
       cases e2:els o with
       | none=>
        rw[e2] at e0;dsimp only at e0;unfold fIxS at e0;split at e0
        .rename_i y x
         by_cases hz:x.length<=sizeLine
         .rw[if_pos hz] at e0
          cases e3:atI x.cps.toList i with
          | none=>rw[e3] at e0;cases e0
          | some c=>
           rw[e3] at e0;cases e0;exact .inr (.inr ⟨x,i,c,ow.str,rfl,hz,e3,q _ H' W' f' [] s ⟨.d (.str _),List.nodup_nil⟩ (fun x z=>nomatch z) (m.narrow fun x hx=>.inl (hx.resolve_right fun z=>nomatch z)) k⟩)
         .rw[if_neg hz] at e0;cases e0
        .rename_i y xs
         cases e3:atI xs i with
         | none=>rw[e3] at e0;cases e0
         | some c=>
          rw[e3] at e0
          cases c with
          | int c=>
           cases e0
           cases ow with
           | q hq=>exact .inl ⟨_,xs,i,.int c,rfl,rfl,hq.sq,e3,q _ H' W' f' [] s ⟨⇑_,List.nodup_nil⟩ (fun x z=>nomatch z) (m.narrow fun x hx=>.inl (hx.resolve_right fun z=>nomatch z)) k⟩
          | _=>cases e0
        .cases e0
       | some z=>
        obtain ⟨kd,os⟩:=z;rw[e2] at e0;dsimp only at e0;obtain ⟨p,vs,As,rfl,h2,h3,h4⟩:=ow.els e2
        cases e3:ixN os.length i with
        | none=>rw[e3] at e0;cases e0
        | some j=>
         rw[e3] at e0;dsimp only at e0
         cases e4:os[j]? with
         | none=>rw[e4] at e0;cases e0
         | some c=>
          rw[e4] at e0;obtain ⟨u,Au,g1,g2,g3⟩:=h3.get e4;have hv:H' p=some (.lst vs)\/H' p=some (.tup vs):=by
           cases kd with
           | true=>exact .inl h2
           | false=>exact .inr h2
          obtain ⟨B',r1,in1⟩:=zoe r hv g1 g2 (fun o' z=>(hD o' z) ▸ (g3.trans h4)) e0;have qq:Q u H':=q u H' W' f' B' s r1 (fun x hx=>n x (in1 x hx)) (m.narrow fun x hx=>hx.imp id (in1 x)) k;have at':atI vs i=some u:=by unfold atI;rw[h3.length,e3];exact g1
          cases kd with
          | true=>exact .inl ⟨p,vs,i,u,rfl,rfl,SqL.of h2,at',qq⟩
          | false=>exact .inr (.inl ⟨p,vs,i,u,rfl,rfl,SqT.of h2,at',qq⟩)
    .rw[if_neg hp] at q;exact False.elim q
 exact tR.mono main fun x H1 h=>tR.mono (toI h) fun y H2 ⟨i,e,q⟩=>by rw[e];exact q
def oNo:Rho->Re (Option Int):=gRet none
def zgw (A:EF):Rho->Re (Option Int):=zb5 (eSc decI A) fun i=>gRet (some i)
abbrev VO (X:Cx) (E:XK) (e:Option Expr) (G:Rho->Re (Option Int)):Prop:=PO X e (tG X.mg X.K E G)
theorem zpa:VO X E none oNo:=fun pins s σ H Q I h=>zpn pins s σ H Q I (tG.ret (E:=E) h)
theorem zol {e:Expr} {A:EF} (h:VR X E e A):VO X E (some e) (zgw A):=fun pins s σ H Q I q=>zpc h pins s σ H Q I (tR.mono (toI (tG.bind q)) fun x H1 ⟨i,e,q⟩=>⟨i,e,tG.ret q⟩)
def fSl (o:O) (lo hi:Option Int):Option O:=match els o with
 | some (true,os)=>match lds os with
  | some ds=>some (.l ((cutD ds lo hi).map O.d))
  | none=>none
 | some (false,os)=>match lds os with
  | some ds=>if HT.sIx ds.length 0 lo=0/\HT.sIx ds.length ds.length hi=ds.length then none else some (.d (.tuple (cutD ds lo hi)))
  | none=>none
 | _=>none
def eSl (A:EF) (L U:Rho->Re (Option Int)):EF:=fun ρ=>(A ρ).bind fun ra ρ1 q1=>(zb5 L (fun l=>zb5 U fun u=>gRet (l,u)) ρ1).bind fun lu ρ2 q2=>if pok ρ1 q2 ra then match vn ρ2 ra with
  | some o=>match fSl o lu.1 lu.2 with
   | some z=>.ok (.own z) ρ2 (q1&&q2)
   | none=>.bad
  | none=>.bad
 else .bad
theorem zs8 {e:Expr} {lo hi:Option Expr} {A:EF} {L U:Rho->Re (Option Int)} {pos p2:Pos} (he:VR X E e A) (hl:VO X E lo L) (hu:VO X E hi U):VR X E (.Subscript e (.Slice lo hi none p2) pos) (eSl A L U):=(znc (sl_list.or zrR) he hl hu).imp fun σ H Q hx__=>by
 obtain ⟨W,ρ,f,ok,q⟩:=hx__;have main:tR X.mg X.K E A σ H fun x H1=>tG X.mg X.K E (zb5 L fun l=>zb5 U fun u=>gRet (l,u)) σ H1 fun lu H2=>rSlL X.K x lu.1 lu.2 H2 Q\/rSlT X.K x lu.1 lu.2 H2 Q:=by
  refine twoG ok ?_;unfold eSl at q
  cases a:A ρ with
  | bad=>rw[a] at q;exact q
  | ex c ρ'=>rw[a] at q;exact q
  | ok ra ρ1 q1=>
   rw[a] at q;dsimp only[Re.bind] at q ⊢
   cases b:zb5 L (fun l=>zb5 U fun u=>gRet (l,u)) ρ1 with
   | bad=>rw[b] at q;exact q
   | ex c ρ'=>rw[b] at q;exact q
   | ok lu ρ2 q2=>
    rw[b] at q;dsimp only at q ⊢
    by_cases hp:pok ρ1 q2 ra=true
    .rw[if_pos hp] at q;refine ⟨hp,fun v H' W' f' C s r n m k=>?_⟩
     cases e1:vn ρ2 ra with
     | none=>rw[e1] at q;exact False.elim q
     | some o=>
      rw[e1] at q;dsimp only at q;obtain ⟨a1,a2⟩:=zc0 e1;obtain ⟨D,ow,_⟩:=s.vw r a1 a2
      cases e2:fSl o lu.1 lu.2 with
      | none=>rw[e2] at q;exact False.elim q
      | some z=>
       rw[e2] at q;unfold fSl at e2;split at e2
       .rename_i os e3
        cases e4:lds os with
        | none=>rw[e4] at e2;cases e2
        | some ds=>
         rw[e4] at e2;cases e2;obtain ⟨p,vs,rfl,h2,h3⟩:=ow.items e3 e4;refine .inl ⟨p,vs,rfl,SqL.of h2,fun p' hp'=>?_⟩;have g:Gr H' W' [p'] (upd H' p' (.lst (cutV vs lu.1 lu.2))) (fun x=>W' x\/x∈[p']):=.newO hp';obtain ⟨g1,g2,g3⟩:=g.fin s m fun x hx=>.inl hx
         exact q _ _ _ f' [p'] g1 ⟨.newL hp' (h3.cut lu.1 lu.2),g.nd⟩ g2 g3 fun hq=>g.quiet ok (k hq)
       .rename_i os e3
        cases e4:lds os with
        | none=>rw[e4] at e2;cases e2
        | some ds=>
         rw[e4] at e2;dsimp only at e2;obtain ⟨p,vs,rfl,h2,h3⟩:=ow.items e3 e4
         by_cases hz:HT.sIx ds.length 0 lu.1=0/\HT.sIx ds.length ds.length lu.2=ds.length
         .rw[if_pos hz] at e2;cases e2
         .rw[if_neg hz] at e2;cases e2;refine .inr ⟨p,vs,rfl,SqT.of h2,by rw[h3.length];exact hz,fun p' hp'=>?_⟩;have g:Gr H' W' [] (upd H' p' (.tup (cutV vs lu.1 lu.2))) W':=.new hp';obtain ⟨g1,g2,g3⟩:=g.fin s m fun x hx=>.inl hx
          exact q _ _ _ f' [] g1 ⟨.d (.tup (fun z=>m.dom' p' z hp') zbx ((h3.cut lu.1 lu.2).on g.d)),g.nd⟩ g2 g3 fun hq=>g.quiet ok (k hq)
       .cases e2
    .rw[if_neg hp] at q;exact False.elim q
 exact tR.mono main fun x H1 h=>tG.mono (tG.bind h) fun l H2 h2=>tG.mono (tG.bind h2) fun u H3 h3=>tG.ret h3
theorem zoU {e m:Expr} {te:TE} {pos p2:Pos} (he:PE X e te) (hm:PE X m (tC (.int (-1))))
  (hsub:∀o i,∃ops,subscripted (.Slice none none (some m) p2) false o i=operate ops (getItem o i)):PE X (.Subscript e (.Slice none none (some m) p2) pos) (fun σ H Q=>te σ H fun x H1=>∃a xs,x=.ref a/\H1 a=some (.lst xs)/\∀p,H1 p=none->Q (.ref p) (upd H1 p (.lst xs.reverse))):=by
 intro pins s σ H Q I h;refine Subscript_ (thn (he pins s σ H _ I h) fun v s1 hx__=>?_);obtain ⟨x,H1,I1,r1,a,xs,e,hx,q⟩:=hx__;subst e;cases r1;refine wpAny_Slice ?_;rw[evalPart_none];refine wpAny_pure ?_;refine wpAny_pure ?_;rw[evalPart_some];refine thn (hm pins s1 σ H1 (fun w H'=>w=.int (-1)/\H'=H1) I1 ⟨rfl,rfl⟩) fun vk s2 hx__=>?_
 obtain ⟨w,H2,I2,r2,ew,eH⟩:=hx__;subst ew eH;obtain ⟨tk,rfl⟩:=r2;have I4:Inv X pins σ H2 { s2 with heap:=s2.heap.push { cls:=.type "slice",data:=.fields #[.none,.none,.int (-1) tk] } }:=I2.kept (t':=s2.toks) fun b ob q=>Heap.get?_push_of_some _ q
 obtain ⟨its,r,ht,hz⟩:=I4.list (SqL.of hx);have hlen:=r.length;obtain ⟨ops,hops⟩:=hsub (.ref a) (.ref s2.heap.objs.size);refine tail_any (T:="list") (ops:=ops) ht.isList.typeIs slot_list_getitem.lookup ?_ hops;refine wpAny_getItem_list_slice (st:=some (-1)) ht.isList (Heap.IsSliceOf.new ..) .none .none (.int _ _) (by decide) ?_ (by rw[List.size_toArray,<-hlen];exact hz);rw[PySem.W.krv_pick];have hv:Vals xs.reverse its.reverse:=r.reverse;exact ⟨.ref _,_,I4.lnew (t':=s2.toks) hv (by rw[List.length_reverse];exact hz),rfl,q _ I4.fresh⟩
def fRev (o:O):Option O:=match els o with
 | some (true,os)=>match lds os with
  | some ds=>some (.l (ds.reverse.map O.d))
  | none=>none
 | _=>none
theorem zjO {e m:Expr} {A:EF} {pos p2:Pos} (he:VR X E e A) (hm:PE X m (tC (.int (-1)))) (hsub:∀o i,∃ops,subscripted (.Slice none none (some m) p2) false o i=operate ops (getItem o i)):VR X E (.Subscript e (.Slice none none (some m) p2) pos) (e1 A fRev):=
 (zoU he hm hsub).imp fun σ H Q h=>tR.mono (vr1 (X:=X) h) fun x H1 hx__=>by
  obtain ⟨W,ox,As,z,o1,dm,hf,q⟩:=hx__;unfold fRev at hf;split at hf
  .rename_i os e3
   cases e4:lds os with
   | none=>rw[e4] at hf;cases hf
   | some ds=>
    rw[e4] at hf;cases hf;obtain ⟨p,vs,rfl,h2,h3⟩:=o1.items e3 e4;exact ⟨p,vs,rfl,h2,fun p' hp'=>q _ _ _ _ (.newO hp') (.newL hp' h3.rev)⟩
  .cases hf
def fIn (neg:Bool) (x y:O):Option O:=match fz x,fz y with
 | some d,some (.list ds)=>if SeqAt.shaped d&&SeqAt.shaped (.list ds) then some (.d (.bool (if neg then !ds.any fun y=>PyData.eqv y d else ds.any fun y=>PyData.eqv y d))) else none
 | some d,some (.tuple ds)=>if SeqAt.shaped d&&SeqAt.shaped (.tuple ds) then some (.d (.bool (if neg then !ds.any fun y=>PyData.eqv y d else ds.any fun y=>PyData.eqv y d))) else none
 | _,_=>none
def rInW (neg:Bool):R2:=fun x y H Q=>∃d ds,Dn H (fun _=>False) x d/\(Dn H (fun _=>False) y (.list ds)\/Dn H (fun _=>False) y (.tuple ds))/\SeqAt.shaped d=true/\SeqAt.shaped (.list ds)=true/\Q (.bl (if neg then !ds.any fun y=>PyData.eqv y d else ds.any fun y=>PyData.eqv y d)) H
theorem zrT (hu:X.A.units+65 < cLine):OpR X (compareOp .In) (rInW false):=by
 intro pins s σ H x y v u Q I rx ry ⟨d,ds,hx,hy,sd,ss,q⟩;obtain ⟨as,ra⟩:=hx.reads I rx;rcases hy with hy | hy
 .obtain ⟨bs,rb⟩:=hy.reads I ry;exact SeqAt.in_list_reads rb ra (SeqAt.canLay_of_shaped ss) (SeqAt.canLay_of_shaped sd) (room_in_shaped sd hu) ⟨.bl _,H,I,rfl,q⟩
 .obtain ⟨bs,rb⟩:=hy.reads I ry;exact SeqAt.in_tuple_reads rb ra (SeqAt.canLay_of_shaped ss) (SeqAt.canLay_of_shaped sd) (room_in_shaped sd hu) ⟨.bl _,H,I,rfl,q⟩
theorem zk2 (hu:X.A.units+65 < cLine):OpR X (compareOp .NotIn) (rInW true):=by
 intro pins s σ H x y v u Q I rx ry ⟨d,ds,hx,hy,sd,ss,q⟩;obtain ⟨as,ra⟩:=hx.reads I rx;rcases hy with hy | hy
 .obtain ⟨bs,rb⟩:=hy.reads I ry;exact SeqAt.notIn_list_reads rb ra (SeqAt.canLay_of_shaped ss) (SeqAt.canLay_of_shaped sd) (room_in_shaped sd hu) ⟨.bl _,H,I,rfl,q⟩
 .obtain ⟨bs,rb⟩:=hy.reads I ry;exact SeqAt.notIn_tuple_reads rb ra (SeqAt.canLay_of_shaped ss) (SeqAt.canLay_of_shaped sd) (room_in_shaped sd hu) ⟨.bl _,H,I,rfl,q⟩
theorem znY {neg:Bool} {x y z:O} (h:fIn neg x y=some z):∃d ds,fz x=some d/\(fz y=some (.list ds)\/fz y=some (.tuple ds))/\SeqAt.shaped d=true/\SeqAt.shaped (.list ds)=true/\z=.d (.bool (if neg then !ds.any fun y=>PyData.eqv y d else ds.any fun y=>PyData.eqv y d)):=by
 unfold fIn at h;split at h
 .rename_i d ds e1 e2
  by_cases hz:(SeqAt.shaped d&&SeqAt.shaped (.list ds))=true
  .rw[if_pos hz] at h;cases h;rw[Bool.and_eq_true] at hz;exact ⟨d,ds,e1,.inl e2,hz.1,hz.2,rfl⟩
  .rw[if_neg hz] at h;cases h
 .rename_i d ds e1 e2
  by_cases hz:(SeqAt.shaped d&&SeqAt.shaped (.tuple ds))=true
  .rw[if_pos hz] at h;cases h;rw[Bool.and_eq_true] at hz;exact ⟨d,ds,e1,.inr e2,hz.1,hz.2,rfl⟩
  .rw[if_neg hz] at h;cases h
 .cases h
theorem zr0 (hu:X.A.units+65 < cLine):OpR X (compareOp .In) (rV2 X.mg X.K (fIn false)):=(zrT hu).imp fun x y H Q hx__=>by
 obtain ⟨W,ox,oy,As,Bs,z,o1,o2,dm,hf,q⟩:=hx__;obtain ⟨d,ds,e1,e2,s1,s2,rfl⟩:=znY hf;exact ⟨d,ds,o1.plain e1,e2.imp o2.plain o2.plain,s1,s2,q _ H W [] .refl (.d (.bl _))⟩
theorem zjH (hu:X.A.units+65 < cLine):OpR X (compareOp .NotIn) (rV2 X.mg X.K (fIn true)):=(zk2 hu).imp fun x y H Q hx__=>by
 obtain ⟨W,ox,oy,As,Bs,z,o1,o2,dm,hf,q⟩:=hx__;obtain ⟨d,ds,e1,e2,s1,s2,rfl⟩:=znY hf;exact ⟨d,ds,o1.plain e1,e2.imp o2.plain o2.plain,s1,s2,q _ H W [] .refl (.d (.bl _))⟩
def fNeg:O->Option O
 | ⇑i=>some ⇑(-i)
 | _=>none
theorem zrW:UnR X (unaryOp .USub) (rV1 X.mg X.K fNeg):=un_neg.imp fun x H Q hx__=>by
 obtain ⟨W,ox,As,z,o1,dm,hf,q⟩:=hx__;unfold fNeg at hf;split at hf
 .cases hf;exact ⟨_,o1.int,q _ H W [] .refl ⇑_⟩
 .cases hf
end
def vns (ρ:Rho):List Rv->Option (List O)
 | []=>some []
 | r::rs=>match vn ρ r,vns ρ rs with
  | some o,some os=>some (o::os)
  | _,_=>none
def eB (A:AF) (F:List O->Option O):EF:=fun ρ=>(A ρ).bind fun rs ρ1 q=>match vns ρ1 rs with
 | some os=>match F os with
  | some z=>.ok (.own z) ρ1 q
  | none=>.bad
 | none=>.bad
section
variable {mg:Str->Option Value} {K:PySem.W.Frag} {H:Hp} {W:Addr->Prop} {σ:St} {ρ:Rho} {f:Fp}
theorem zn2 (s:Sl mg K H W σ ρ f):∀{rs:List Rv} {vs:List V} {g:Fp} {os:List O},Rvs mg K H W σ vs rs g->vns ρ rs=some os->vs.length=os.length/\∀(k:Nat) (o:O),os[k]? = some o->∃v As,vs[k]? = some v/\Ow mg K H W v o As
 | [],vs,g,os,h,e=>by
  cases e;refine ⟨by have:=h.len;simpa using this,fun k o z=>by simp at z⟩
 | r::rs,vs,g,os,h,e=>by
  obtain ⟨v,us,rfl,h0,ht⟩:=h.tail;rw[vns] at e
  cases a:vn ρ r with
  | none=>rw[a] at e;cases e
  | some o=>
   cases b:vns ρ rs with
   | none=>rw[a,b] at e;cases e
   | some os'=>
    rw[a,b] at e;cases e;obtain ⟨l,k⟩:=zn2 s ht b;obtain ⟨a1,a2⟩:=zc0 a;obtain ⟨C,ow,_⟩:=s.vw h0 a1 a2;refine ⟨by simp[l],fun j u z=>?_⟩
    cases j with
    | zero=>cases z;exact ⟨v,C,rfl,ow⟩
    | succ j=>exact k j u z
end
section
variable {X:Cx} {E:XK}
theorem vB {A:AF} {F:List O->Option O} {σ:St} {H:Hp} {Q:VK} (h:tR X.mg X.K E (eB A F) σ H Q):tCB (rVs X.mg X.K F) (tRs X.mg X.K E A) σ H Q:=by
 obtain ⟨W,ρ,f,ok,q⟩:=h;refine ⟨W,ρ,f,ok, ?_⟩;unfold eB at q
 cases a:A ρ with
 | bad=>rw[a] at q;exact q
 | ex c ρ'=>rw[a] at q;exact q
 | ok rs ρ1 q1=>
  rw[a] at q;intro vs H' W' f' g s r n m k;dsimp only[Re.bind] at q
  cases e1:vns ρ1 rs with
  | none=>rw[e1] at q;exact False.elim q
  | some os=>
   rw[e1] at q;dsimp only at q
   cases e2:F os with
   | none=>rw[e2] at q;exact False.elim q
   | some z=>
    rw[e2] at q;obtain ⟨h1,h2⟩:=zn2 s r e1;refine ⟨W',os,z,h1,h2,m.dom',e2,fun w H'' W'' B' g' ow=>?_⟩;obtain ⟨g1,g2,g3⟩:=g'.fin s m fun x hx=>.inl hx
    exact q w H'' W'' f' B' g1 ⟨ow,g'.nd⟩ g2 g3 fun hq=>g'.quiet ok (k hq)
theorem zeS {id:String} {F:List O->Option O} {x:Str} {e:Expr} {es:List Expr} {A:AF} {p pos:Pos} (hc:CallR X (.builtin id) (rVs X.mg X.K F)) (hg:Gl X x) (hm:X.mg x=none) (hv:bootBuiltins x=some (.builtin id)) (ha:VA X E (e::es) A) (hn:x≠"__name__":=by decide) (hdb:(x==("__debug__":Str))=false:=by decide)
  (he:starEach (e::es) X.env=(false,eval e X.env)::starEach es X.env:=by rfl) (hpl:(backTo pos (starEach es X.env)).any (·.1)=false:=by rfl):VR X E (.Call (.Name x p) (e::es) [] pos) (eB A F):=(zmU hc hg hm hv ha hn hdb he hpl).imp fun _ _ _ h=>vB h
theorem zeP {T:String} {F:List O->Option O} {x:Str} {e:Expr} {es:List Expr} {A:AF} {p pos:Pos} (hc:CallR X (.type T) (rVs X.mg X.K F)) (hg:Gl X x) (hm:X.mg x=none) (hv:bootBuiltins x=some (.type T)) (ha:VA X E (e::es) A) (hn:x≠"__name__":=by decide) (hdb:(x==("__debug__":Str))=false:=by decide)
  (he:starEach (e::es) X.env=(false,eval e X.env)::starEach es X.env:=by rfl) (hpl:(backTo pos (starEach es X.env)).any (·.1)=false:=by rfl):VR X E (.Call (.Name x p) (e::es) [] pos) (eB A F):=(zkY hc hg hm hv ha hn hdb he hpl).imp fun _ _ _ h=>vB h
def f1 (F:O->Option O):List O->Option O
 | [o]=>F o
 | _=>none
theorem cv1 {f:Value} {r:List V->Hp->VK->Prop} {F:O->Option O} (h:CallR X f r) (i:∀x H Q,rV1 X.mg X.K F x H Q->r [x] H Q):CallR X f (rVs X.mg X.K (f1 F)):=h.imp fun xs H Q hx__=>by
 obtain ⟨W,os,z,hl,ho,dm,hf,q⟩:=hx__;unfold f1 at hf;split at hf
 .rename_i o;obtain ⟨v,As,e,ow⟩:=ho 0 o rfl
  cases xs with
  | nil=>cases e
  | cons x xs=>
   cases e
   cases xs with
   | nil=>exact i _ H Q ⟨W,o,As,z,ow,dm,hf,q⟩
   | cons y ys=>simp at hl
 .cases hf
def f2I (F:Int->Int->Int):List O->Option O
 | [⇑a,⇑b]=>some ⇑(F a b)
 | _=>none
theorem cv2I {f:Value} {F:Int->Int->Int} (h:CallR X f (fun xs H Q=>∃i j,xs=[.int i,.int j]/\Q (.int (F i j)) H)):CallR X f (rVs X.mg X.K (f2I F)):=h.imp fun xs H Q hx__=>by
 obtain ⟨W,os,z,hl,ho,dm,hf,q⟩:=hx__;unfold f2I at hf;split at hf
 .rename_i a b;cases hf;obtain ⟨v,As,e,ow⟩:=ho 0 _ rfl;obtain ⟨v',As',e',ow'⟩:=ho 1 _ rfl
  cases xs with
  | nil=>cases e
  | cons x xs=>
   cases xs with
   | nil=>cases e'
   | cons y xs=>
    cases xs with
    | nil=>
     cases e
     cases e'
     exact ⟨a,b,by rw[ow.int,ow'.int],q _ H W [] .refl ⇑_⟩
    | cons=>cases hl
 .cases hf
def zmG:O->Option O
 | .q xs=>some ⇑xs.length
 | _=>none
def fLen (o:O):Option O:=match els o with
 | some (_,os)=>some ⇑os.length
 | none=>zmG o
theorem zqn:CallR X (.builtin "len") (rVs X.mg X.K (f1 fLen)):=cv1 zhv fun x H Q hx__=>by
 obtain ⟨W,ox,As,z,o1,dm,hf,q⟩:=hx__;unfold fLen at hf;split at hf
 .rename_i k os e;cases hf;obtain ⟨a,vs,A,rfl,h2,h3,_⟩:=o1.els e;refine ⟨a,vs,rfl, ?_,by rw[h3.length];exact q _ H W [] .refl ⇑_⟩
  cases k with
  | true=>exact .inl (SqL.of h2)
  | false=>exact .inr (SqT.of h2)
 .unfold zmG at hf;split at hf
  .cases hf
   cases o1 with
   | q h=>exact ⟨_,_,rfl,.inl h.sq,q _ H W [] .refl ⇑_⟩
  .cases hf
def zgy (o:O):Option O:=match els o with
 | some (_,os)=>match lds os with
  | some ds=>some (.l (ds.map O.d))
  | none=>none
 | none=>none
theorem zpb:CallR X (.type "list") (rVs X.mg X.K (f1 zgy)):=cv1 zhU fun x H Q hx__=>by
 obtain ⟨W,ox,As,z,o1,dm,hf,q⟩:=hx__;unfold zgy at hf;split at hf
 .rename_i k os e
  cases e4:lds os with
  | none=>rw[e4] at hf;cases hf
  | some ds=>
   rw[e4] at hf;cases hf;obtain ⟨a,vs,rfl,h2,h3⟩:=o1.items e e4;refine ⟨a,vs,rfl, ?_,fun l hl=>q _ _ _ _ (.newO hl) (.newL hl h3)⟩
   cases k with
   | true=>exact .inl (SqL.of h2)
   | false=>exact .inr (SqT.of h2)
 .cases hf
def dIs:List PyData->Option (List Int)
 | []=>some []
 | .int i::ds=>(dIs ds).map (i::·)
 | _=>none
theorem znQ:∀{ds:List PyData} {ns:List Int},dIs ds=some ns->ds=ns.map PyData.int
 | [],ns,e=>by cases e;rfl
 | .int i::ds,ns,e=>by
  rw[dIs] at e
  cases q:dIs ds with
  | none=>rw[q] at e;cases e
  | some xs=>rw[q] at e;cases e;rw[znQ q];rfl
 | .none::_,_,e=>by cases e
 | .bool _::_,_,e=>by cases e
 | .str _::_,_,e=>by cases e
 | .list _::_,_,e=>by cases e
 | .tuple _::_,_,e=>by cases e
 | .dict _::_,_,e=>by cases e
def zsOf (o:O):Option (List Int):=match fz o with
 | some (.list ds)=>dIs ds
 | _=>none
theorem zkz {o:O} {ns:List Int} (h:zsOf o=some ns):fz o=some (.list (ns.map PyData.int)):=by
 unfold zsOf at h;split at h
 .rename_i ds e;rw[e,znQ h]
 .cases h
def fSum (o:O):Option O:=(zsOf o).map fun ns=>⇑ns.sum
theorem znB (hc:X.calm=true):CallR X (.builtin "sum") (rVs X.mg X.K (f1 fSum)):=cv1 (zkx hc) fun x H Q hx__=>by
 obtain ⟨W,ox,As,z,o1,dm,hf,q⟩:=hx__;unfold fSum at hf
 cases e:zsOf ox with
 | none=>rw[e] at hf;cases hf
 | some ns=>
  rw[e] at hf;cases hf;exact ⟨x,_,ns,rfl,o1.plain (zkz e),q _ H W [] .refl ⇑_⟩
theorem zpF (hc:X.calm=true):CallR X (.builtin "max") (rVs X.mg X.K (f2I fun i j=>if j > i then j else i)):=cv2I (zlZ hc)
def ziq:O->Option O
 | ⇑i=>some ⇑i
 | .d (.bool b)=>some ⇑(if b then 1 else 0)
 | _=>none
theorem zr4:CallR X (.type "int") (rVs X.mg X.K (f1 ziq)):=cv1 zmi fun x H Q hx__=>by
 obtain ⟨W,ox,As,z,o1,dm,hf,q⟩:=hx__;unfold ziq at hf;split at hf
 .cases hf;exact .inl ⟨_,by rw[o1.int],q _ H W [] .refl ⇑_⟩
 .cases hf;exact .inr ⟨_,by rw[o1.bl],q _ H W [] .refl ⇑_⟩
 .cases hf
def insZ (n:Int):List Int->List Int
 | []=>[n]
 | m::ms=>if n<=m then n::m::ms else m::insZ n ms
def zdh:List Int->List Int
 | []=>[]
 | n::ns=>insZ n (zdh ns)
theorem zf2 (n:Int):∀ms:List Int,(insZ n ms).Perm (n::ms)
 | []=>.refl _
 | m::ms=>by
  rw[insZ];split
  .exact .refl _
  .exact ((zf2 n ms).cons m).trans (.swap _ _ _)
theorem zej:∀ns:List Int,(zdh ns).Perm ns
 | []=>.refl _
 | n::ns=>(zf2 n _).trans ((zej ns).cons n)
theorem zkG {n:Int}:∀{ms:List Int},ms.Pairwise (·<=·)->(insZ n ms).Pairwise (·<=·)
 | [],_=>List.pairwise_singleton _ _
 | m::ms,h=>by
  rw[insZ];obtain ⟨h1,h2⟩:=List.pairwise_cons.mp h;split
  .rename_i hn;exact List.pairwise_cons.mpr ⟨fun a ha=>by
    rcases List.mem_cons.mp ha with rfl | ha
    .exact hn
    .exact Int.le_trans hn (h1 a ha),h⟩
  .rename_i hn;refine List.pairwise_cons.mpr ⟨fun a ha=>?_,zkG h2⟩;rcases List.mem_cons.mp ((zf2 n ms).mem_iff.mp ha) with rfl | ha
   .omega
   .exact h1 a ha
theorem zjD:∀ns:List Int,(zdh ns).Pairwise (·<=·)
 | []=>.nil
 | n::ns=>zkG (zjD ns)
theorem zhq:∀{xs ys:List Int},xs.Perm ys->xs.Pairwise (·<=·)->ys.Pairwise (·<=·)->xs=ys
 | [],ys,p,_,_=>by rw[List.nil_perm.mp p]
 | x::xs,[],p,_,_=>by cases List.perm_nil.mp p
 | x::xs,y::ys,p,h,k=>by
  obtain ⟨h1,h2⟩:=List.pairwise_cons.mp h;obtain ⟨k1,k2⟩:=List.pairwise_cons.mp k;have e:x=y:=by
   have hx:x∈y::ys:=p.mem_iff.mp List.mem_cons_self;have hy:y∈x::xs:=p.mem_iff.mpr List.mem_cons_self;rcases List.mem_cons.mp hx with e | hx
   .exact e
   .rcases List.mem_cons.mp hy with e | hy
    .exact e.symm
    .have:=k1 x hx
     have:=h1 y hy
     omega
  subst e;rw[zhq (List.Perm.cons_inv p) h2 k2]
def zf6 (o:O):Option O:=match zsOf o with
 | some ns=>if ns.length < 64 then some (.l ((zdh ns).map fun i=>⇑i)) else none
 | none=>none
theorem zmb:CallR X (.builtin "sorted") (rVs X.mg X.K (f1 zf6)):=cv1 zif fun x H Q hx__=>by
 obtain ⟨W,ox,As,z,o1,dm,hf,q⟩:=hx__;unfold zf6 at hf
 cases e:zsOf ox with
 | none=>rw[e] at hf;cases hf
 | some ns=>
  rw[e] at hf;dsimp only at hf
  by_cases hz:ns.length < 64
  .rw[if_pos hz] at hf;cases hf;refine ⟨x,_,ns,rfl,o1.plain (zkz e),hz,fun l ms hl p1 p2=>?_⟩
   have:ms=zdh ns:=zhq (p1.trans (zej ns).symm) p2 (zjD ns)
   subst this;refine q _ _ _ _ (.newO hl) ?_
   have:=Ow.newL (mg:=X.mg) (K:=X.K) (W:=W) hl (Dns.ofInts (P:=W) (H:=H) (zdh ns))
   rw[List.map_map] at this;exact this
  .rw[if_neg hz] at hf;cases hf
def tyN:O->Option String
 | .d .none=>some "NoneType"
 | .d (.bool _)=>some "bool"
 | ⇑_=>some "int"
 | .d (.str _)=>some "str"
 | .d (.list _)=>some "list"
 | .d (.tuple _)=>some "tuple"
 | .l _=>some "list"
 | .t _=>some "tuple"
 | _=>none
def subT (T U:String):Bool:=T==U || (T=="bool"&&U=="int")
def fIsi (U:String) (o:O):Option O:=match tyN o with
 | some T=>some (.d (.bool (subT T U)))
 | none=>none
def zki:O->Option O
 | ⇑i=>some ⇑(Builtin.Int.intBits i)
 | _=>none
theorem zpB {o:Expr} {A:EF} {apos cpos:Pos} (ho:VR X E o A) (h:PE X (.Call (.Attribute o "bit_length" apos) [] [] cpos) (tBM0 X.K "int" (fun x xs H Q=>∃i,x=.int i/\xs=[]/\Q (.int (Builtin.Int.intBits i)) H) (tR X.mg X.K E A))) :
  VR X E (.Call (.Attribute o "bit_length" apos) [] [] cpos) (e1 A zki):=h.imp fun σ H Q h=>tR.mono (vr1 (X:=X) h) fun x H1 hx__=>by
  obtain ⟨W,ox,As,z,o1,dm,hf,q⟩:=hx__;unfold zki at hf;split at hf
  .cases hf;rw[o1.int];exact ⟨rfl,_,rfl,rfl,q _ H1 W [] .refl ⇑_⟩
  .cases hf
end
section
variable (mg:Str->Option Value) (K:PySem.W.Frag) (E:XK) (L:List Nat)
def Held (σ σ':St):Prop:=σ'.length=σ.length/\∀i∈L,σ'[i]? = σ[i]?
def kS (D:Ends) (σ:St) (H:Hp) (W:Addr->Prop) (f:Fp):Rt->Prop
 | .bad=>False
 | .nx ρ'=>∀σ' H' W' f',Sl mg K H' W' σ' ρ' f'->Mv (Inn f) H W (Inn f') H' W'->Held L σ σ'->D.nx σ' H'
 | .br ρ'=>∀σ' H' W' f',Sl mg K H' W' σ' ρ' f'->Mv (Inn f) H W (Inn f') H' W'->Held L σ σ'->D.bk σ' H'
 | .ct ρ'=>∀σ' H' W' f',Sl mg K H' W' σ' ρ' f'->Mv (Inn f) H W (Inn f') H' W'->Held L σ σ'->D.ct σ' H'
 | .rt o ρ'=>∀v σ' H' W' f' B,Sl mg K H' W' σ' ρ' f'->Ow mg K H' W' v o B->B.Nodup->(∀x∈B,¬Inn f' x)->Mv (Inn f) H W (fun x=>Inn f' x\/x∈B) H' W'->Held L σ σ'->D.rt v H'
 | .ex c ρ'=>∀σ' H' W' f',Sl mg K H' W' σ' ρ' f'->Mv (Inn f) H W (Inn f') H' W'->Held L σ σ'->XW mg K E c H'
def tS (G:SF):TS:=fun D σ H=>∃W ρ f,Ok mg K H W σ ρ f/\kS mg K E L D σ H W f (G ρ)
end
abbrev VS (X:Cx) (E:XK) (L:List Nat) (st:Stmt) (G:SF):Prop:=PS X st (tS X.mg X.K E L G)
abbrev VSs (X:Cx) (E:XK) (L:List Nat) (st:List Stmt) (G:SF):Prop:=PSs X st (tS X.mg X.K E L G)
theorem PS.imp {X:Cx} {e:Stmt} {t t':TS} (h:PS X e t) (i:∀D σ H,t' D σ H->t D σ H):PS X e t':=fun pins s σ H D I q=>h pins s σ H D I (i D σ H q)
theorem PSs.imp {X:Cx} {e:List Stmt} {t t':TS} (h:PSs X e t) (i:∀D σ H,t' D σ H->t D σ H):PSs X e t':=fun pins s σ H D I q=>h pins s σ H D I (i D σ H q)
theorem Held.refl {L:List Nat} {σ:St}:Held L σ σ:=⟨rfl,fun _ _=>rfl⟩
theorem Held.trans {L:List Nat} {σ σ1 σ2:St} (a:Held L σ σ1) (b:Held L σ1 σ2):Held L σ σ2:=⟨b.1.trans a.1,fun i hi=>(b.2 i hi).trans (a.2 i hi)⟩
theorem tS.from {mg:Str->Option Value} {K:PySem.W.Frag} {E:XK} {L:List Nat} {G:SF} {D:Ends} {σ σ1:St} {H H1:Hp} {W W1:Addr->Prop} {ρ1:Rho} {f f1:Fp}
  (s1:Sl mg K H1 W1 σ1 ρ1 f1) (m1:Mv (Inn f) H W (Inn f1) H1 W1) (l1:Held L σ σ1)
  (q:kS mg K E L D σ H W f (G ρ1)):tS mg K E L G D σ1 H1:=by
 refine ⟨W1,ρ1,f1,.next s1 m1 fun _ z=>z, ?_⟩
 cases a:G ρ1 with
 | bad=>rw[a] at q;exact q
 | nx ρ'=>rw[a] at q;exact fun σ' H' W' f' s m l=>q σ' H' W' f' s (m1.trans m) (l1.trans l)
 | br ρ'=>rw[a] at q;exact fun σ' H' W' f' s m l=>q σ' H' W' f' s (m1.trans m) (l1.trans l)
 | ct ρ'=>rw[a] at q;exact fun σ' H' W' f' s m l=>q σ' H' W' f' s (m1.trans m) (l1.trans l)
 | rt o ρ'=>rw[a] at q;exact fun v σ' H' W' f' B s o nd ap m l=>q v σ' H' W' f' B s o nd ap (m1.trans m) (l1.trans l)
 | ex c ρ'=>rw[a] at q;exact fun σ' H' W' f' s m l=>q σ' H' W' f' s (m1.trans m) (l1.trans l)
def sNil:SF:=fun ρ=>.nx ρ
def sSeq (S T:SF):SF:=fun ρ=>match S ρ with
 | .nx ρ'=>T ρ'
 | r=>r
section
variable {X:Cx} {E:XK} {L:List Nat}
theorem zcf:VSs X E L [] sNil:=pss_nil.imp fun D σ H hx__=>by obtain ⟨W,ρ,f,ok,q⟩:=hx__;exact q σ H W f ok.s (.refl ok.sub ok.dom) .refl
theorem zaX {st:Stmt} {S:SF} (h:VS X E L st S):VSs X E L [st] S:=zoO h
theorem zai {st:Stmt} {rest:List Stmt} {S T:SF} (h1:VS X E L st S) (h2:VSs X E L rest T):VSs X E L (st::rest) (sSeq S T):=(zmS h1 h2).imp fun D σ H hx__=>by
 obtain ⟨W,ρ,f,ok,q⟩:=hx__;refine ⟨W,ρ,f,ok, ?_⟩;unfold sSeq at q
 cases a:S ρ with
 | bad=>rw[a] at q;exact q
 | nx ρ1=>rw[a] at q;exact fun σ1 H1 W1 f1 s1 m1 l1=>tS.from s1 m1 l1 q
 | br ρ'=>rw[a] at q;exact q
 | ct ρ'=>rw[a] at q;exact q
 | rt o ρ'=>rw[a] at q;exact q
 | ex c ρ'=>rw[a] at q;exact q
def sBrk:SF:=fun ρ=>.br ρ
theorem znp {pos:Pos}:VS X E L (.Break pos) sBrk:=ps_break.imp fun D σ H hx__=>by obtain ⟨W,ρ,f,ok,q⟩:=hx__;exact q σ H W f ok.s (.refl ok.sub ok.dom) .refl
def za3 (A:EF):SF:=fun ρ=>match A ρ with
 | .bad=>.bad
 | .ok _ ρ' _=>.nx ρ'
 | .ex c ρ'=>.ex c ρ'
theorem zk1 {e:Expr} {A:EF} {pos:Pos} (he:VR X E e A) (hs:swapsWith e none pos.line X.env=pure false:=by rfl):VS X E L (.Expr e pos) (za3 A):=(zpo he hs).imp fun D σ H hx__=>by
 obtain ⟨W,ρ,f,ok,q⟩:=hx__;refine ⟨W,ρ,f,ok, ?_⟩;unfold za3 at q
 cases a:A ρ with
 | bad=>rw[a] at q;exact q
 | ex c ρ'=>rw[a] at q;exact fun H' W' f' s m=>q σ H' W' f' s m .refl
 | ok r ρ' k=>rw[a] at q;exact fun v H' W' f' B s r n m k=>q σ H' W' f' s (m.narrow fun x hx=>.inl hx) .refl
def sRet (take:Rho->Rv->Option (O×Rho)) (A:EF):SF:=fun ρ=>match A ρ with
 | .bad=>.bad
 | .ok r ρ' _=>match take ρ' r with
  | some (o,ρ'')=>.rt o ρ''
  | none=>.bad
 | .ex c ρ'=>.ex c ρ'
def zh3 (take:Rho->Rv->Option (O×Rho)):Prop:=∀{mg:Str->Option Value} {K:PySem.W.Frag} {H:Hp} {W:Addr->Prop} {σ:St} {ρ ρ':Rho} {f:Fp} {r:Rv} {v:V} {B:List Addr} {o:O},Sl mg K H W σ ρ f->(∀x,Inn f x->W x)->RvOk mg K H W σ v r B->(∀x∈B,W x/\¬Inn f x)->take ρ r=some (o,ρ')->
  ∃W' f',Sl mg K H W' σ ρ' f'/\Gv W f W' f'/\∃B',Ow mg K H W' v o B'/\B'.Nodup/\∀x∈B',(x∈B\/Inn f x)/\W' x/\¬Inn f' x
theorem zdH:zh3 mov:=@zid
theorem za0:zh3 coe:=fun s sb h hB e=>by
 obtain ⟨W',f',s',g,B',h1,h2,h3⟩:=zgu s sb h e;exact ⟨W',f',s',g,B',h1,h2,fun x hx=>⟨.inl (h3 x hx),(g.more x (hB x (h3 x hx)).1).resolve_left (hB x (h3 x hx)).2,fun z=>(hB x (h3 x hx)).2 (g.ours x z)⟩⟩
theorem zhx {take:Rho->Rv->Option (O×Rho)} (ht:zh3 take) {mg:Str->Option Value} {K:PySem.W.Frag} {A:EF} {σ:St} {H:Hp} {W:Addr->Prop} {ρ:Rho} {f:Fp} {R:V->Hp->Prop} (ok:Ok mg K H W σ ρ f)
  (h:match A ρ with
   | .bad=>False
   | .ex c ρ'=>∀H' W' f',Sl mg K H' W' σ ρ' f'->Mv (Inn f) H W (Inn f') H' W'->XW mg K E c H'
   | .ok r ρ1 q=>match take ρ1 r with
    | none=>False
    | some (o,ρ2)=>∀v H' W' f' As,Sl mg K H' W' σ ρ2 f'->Ow mg K H' W' v o As->As.Nodup->(∀x∈As,¬Inn f' x)->Mv (Inn f) H W (fun x=>Inn f' x\/x∈As) H' W'->R v H') :
  tR mg K E A σ H R:=by
 refine ⟨W,ρ,f,ok, ?_⟩
 cases a:A ρ with
 | bad=>rw[a] at h;exact h
 | ex c ρ'=>rw[a] at h;exact h
 | ok r ρ1 q=>
  rw[a] at h;intro v H1 W1 f1 B s1 r1 n1 m1 k1;dsimp only at h
  cases b:take ρ1 r with
  | none=>rw[b] at h;exact h.elim
  | some z=>
   obtain ⟨o,ρ2⟩:=z;rw[b] at h;obtain ⟨W2,f2,s2,g2,As,o2,nd2,in2⟩:=ht s1 (fun x hx=>m1.sub' x (.inl hx)) r1 (fun x hx=>⟨m1.sub' x (.inr hx),n1 x hx⟩) b;exact h v H1 W2 f2 As s2 o2 nd2 (fun x hx=>(in2 x hx).2.2) (m1.trans (g2.mv (fun x hx=>.inl hx) m1.sub' m1.dom' fun x hx=>⟨(in2 x hx).1.elim .inr .inl,(in2 x hx).2.1⟩))
theorem zdj {take:Rho->Rv->Option (O×Rho)} {e:Expr} {A:EF} {pos:Pos} (ht:zh3 take) (he:VR X E e A):VS X E L (.Return (some e) pos) (sRet take A):=(zq4 he).imp fun D σ H hx__=>by
 obtain ⟨W,ρ,f,ok,q⟩:=hx__;refine zhx ht ok ?_;unfold sRet at q
 cases a:A ρ with
 | bad=>rw[a] at q;exact q
 | ex c ρ'=>rw[a] at q;exact fun H' W' f' s m=>q σ H' W' f' s m .refl
 | ok r ρ' k=>
  rw[a] at q;dsimp only at q ⊢
  cases b:take ρ' r with
  | none=>rw[b] at q;exact q
  | some z=>obtain ⟨o,ρ''⟩:=z;rw[b] at q;exact fun v H' W' f' As s o nd ap m=>q v σ H' W' f' As s o nd ap m .refl
def zue:SF:=fun ρ=>.rt (.d .none) ρ
def sIf (T:TF) (S U:SF):SF:=fun ρ=>match T ρ with
 | .bad=>.bad
 | .ok b ρ' _=>if b then S ρ' else U ρ'
 | .ex c ρ'=>.ex c ρ'
theorem zep {c:Expr} {a b:List Stmt} {T:TF} {S U:SF} {pos:Pos} (hc:VT X E c T) (ha:VSs X E L a S) (hb:VSs X E L b U):VS X E L (.If c a b pos) (sIf T S U):=(ztM hc ha hb).imp fun D σ H hx__=>by
 obtain ⟨W,ρ,f,ok,q⟩:=hx__;refine ⟨W,ρ,f,ok, ?_⟩;unfold sIf at q
 cases e:T ρ with
 | bad=>rw[e] at q;exact q
 | ex c ρ'=>rw[e] at q;exact fun H' W' f' s m=>q σ H' W' f' s m .refl
 | ok b ρ1 k=>
  rw[e] at q;intro H1 W1 f1 s1 m1 k1
  cases b with
  | true=>exact tS.from s1 m1 .refl q
  | false=>exact tS.from s1 m1 .refl q
abbrev GF:=O->Rho->Option Rho
section
variable (mg:Str->Option Value) (K:PySem.W.Frag) (L:List Nat)
def tTg (G:GF):TG:=fun v σ H Q=>∃W ρ f o B ρ',Sl mg K H W σ ρ f/\Ow mg K H W v o B/\B.Nodup/\(∀x∈B,¬Inn f x)/\(∀x,Inn f x\/x∈B->W x)/\(∀x,W x->H x≠none)/\G o ρ=some ρ'/\
 ∀σ' f',Sl mg K H W σ' ρ' f'->(∀x,Inn f' x->Inn f x\/x∈B)->Held L σ σ'->Q σ' H
def tGs (G:List O->Rho->Option Rho):TGs:=fun vs σ H Q=>∃W ρ f os B ρ',Sl mg K H W σ ρ f/\Ows mg K H W vs os B/\B.Nodup/\(∀x∈B,¬Inn f x)/\(∀x,Inn f x\/x∈B->W x)/\(∀x,W x->H x≠none)/\G os ρ=some ρ'/\
 ∀σ' f',Sl mg K H W σ' ρ' f'->(∀x,Inn f' x->Inn f x\/x∈B)->Held L σ σ'->Q σ' H
end
abbrev VG (X:Cx) (L:List Nat) (e:Expr) (G:GF):Prop:=PG X e (tTg X.mg X.K L G)
abbrev VGs (X:Cx) (L:List Nat) (es:List Expr) (G:List O->Rho->Option Rho):Prop:=PGs X es (tGs X.mg X.K L G)
def gtN (i:Nat):GF:=fun o ρ=>if i < ρ.length then some (ρ.set i o) else none
theorem Sl.bind {mg:Str->Option Value} {K:PySem.W.Frag} {H:Hp} {W:Addr->Prop} {σ:St} {ρ:Rho} {f:Fp} {o:O} {v:V} {B:List Addr} (i:Nat) (s:Sl mg K H W σ ρ f) (h:Ow mg K H W v o B) (nd:B.Nodup) (ap:∀x∈B,¬Inn f x) (hi:i < ρ.length) :
  Sl mg K H W (σ.set i (some v)) (ρ.set i o) (fset f i B):=s.set hi h nd fun x hx j _ z=>ap x hx ⟨j,z⟩
theorem zfS {i:Nat} {σ:St} {x:Option V} (h:i∉L):Held L σ (σ.set i x):=⟨List.length_set,fun j hj=>List.getElem?_set_ne (fun z:i=j=>h (z ▸ hj))⟩
theorem zbL {i:Nat} {x:Str} {pos:Pos} (h:PG X (.Name x pos) (zkk i)) (hL:i∉L):VG X L (.Name x pos) (gtN i):=fun pins s σ H v u Q I r hx__=>by
 obtain ⟨W,ρ,f,o,B,ρ',sl,ow,nd,ap,sb,dm,e,q⟩:=hx__;refine h pins s σ H v u Q I r ?_;unfold gtN at e
 by_cases hi:i < ρ.length
 .rw[if_pos hi] at e;cases e;exact q _ _ (sl.bind i ow nd ap hi) (fun x hx=>hx.set) (zfS hL)
 .rw[if_neg hi] at e;cases e
def zbl:List O->Rho->Option Rho:=fun os ρ=>match os with | []=>some ρ | _=>none
def zah (G:GF) (R:List O->Rho->Option Rho):List O->Rho->Option Rho:=fun os ρ=>match os with
 | o::os=>match G o ρ with
  | some ρ1=>R os ρ1
  | none=>none
 | []=>none
theorem ziB:VGs X L [] zbl:=fun pins s σ H vs us Q I r hx__=>by
 obtain ⟨W,ρ,f,os,B,ρ',sl,ow,nd,ap,sb,dm,e,q⟩:=hx__
 cases os with
 | nil=>cases ow;cases e;exact zoX pins s σ H [] us Q I r ⟨rfl,q σ f sl (fun x hx=>.inl hx) .refl⟩
 | cons o os=>cases e
theorem ze0 {e:Expr} {es:List Expr} {G:GF} {R:List O->Rho->Option Rho} (h1:VG X L e G) (h2:VGs X L es R) (hs:(assignEach (e::es) X.env).map (·.2)=assign e X.env::(assignEach es X.env).map (·.2):=by rfl):VGs X L (e::es) (zah G R):=
 fun pins s σ H vs us Q I r hx__=>by
  obtain ⟨W,ρ,f,os,B,ρ',sl,ow,nd,ap,sb,dm,e,q⟩:=hx__;refine zmT h1 h2 hs pins s σ H vs us Q I r ?_;unfold zah at e
  cases ow with
  | nil=>cases e
  | @cons v o vs os A C a b=>
   dsimp only at e
   cases z:G o ρ with
   | none=>rw[z] at e;cases e
   | some ρ1=>
    rw[z] at e;obtain ⟨nA,nC,dj⟩:=List.nodup_append.mp nd;refine ⟨v,vs,rfl,W,ρ,f,o,A,ρ1,sl,a,nA,fun x hx=>ap x (List.mem_append_left _ hx),fun x hx=>sb x (hx.imp id (List.mem_append_left _)),dm,z,fun σ1 f1 sl1 in1 l1=>?_⟩;refine ⟨W,ρ1,f1,os,C,ρ',sl1,b,nC,fun x hx y=>?_,fun x hx=>?_,dm,e,fun σ2 f2 sl2 in2 l2=>q σ2 f2 sl2 (fun x hx=>?_) (l1.trans l2)⟩
    .rcases in1 x y with y | y
     .exact ap x (List.mem_append_right _ hx) y
     .exact dj x y x hx rfl
    .rcases hx with hx | hx
     .exact sb x ((in1 x hx).imp id (List.mem_append_left _))
     .exact sb x (.inr (List.mem_append_right _ hx))
    .rcases in2 x hx with hx | hx
     .exact (in1 x hx).imp id (List.mem_append_left _)
     .exact .inr (List.mem_append_right _ hx)
def gtT (R:List O->Rho->Option Rho):GF:=fun o ρ=>match els o with
 | some (false,os)=>R os ρ
 | _=>none
theorem zl1 {es:List Expr} {k:Nat} {R:List O->Rho->Option Rho} {pos:Pos} (hc:X.calm=true) (h:VGs X L es R) (n:Nat) (hR:∀os ρ ρ',R os ρ=some ρ'->os.length=n)
  (hn:(assignEach es X.env).length=n:=by rfl) (hst:(assignEach es X.env).findIdx? (·.1)=none:=by rfl):VG X L (.Tuple es k pos) (gtT R):=fun pins s σ H v u Q I r hx__=>by
 obtain ⟨W,ρ,f,o,B,ρ',sl,ow,nd,ap,sb,dm,e,q⟩:=hx__;refine zrI hc h hn hst pins s σ H v u Q I r ?_;unfold gtT at e
 cases z:els o with
 | none=>rw[z] at e;cases e
 | some y=>
  obtain ⟨b,os⟩:=y;rw[z] at e
  cases b with
  | true=>cases e
  | false=>
   obtain ⟨a,vs,A,rfl,h2,h3,h4⟩:=ow.els z;exact ⟨a,vs,rfl,SqT.of h2,by rw[h3.length];exact hR os ρ ρ' e,W,ρ,f,os,A,ρ',sl,h3,nd.sublist h4,fun x hx=>ap x (h4.subset hx),fun x hx=>sb x (hx.imp id (fun z=>h4.subset z)),dm,e,fun σ' f' s' i' l'=>q σ' f' s' (fun x hx=>(i' x hx).imp id (fun z=>h4.subset z)) l'⟩
theorem zeT {os:List O} {ρ ρ':Rho} (h:zbl os ρ=some ρ'):os.length=0:=by
 unfold zbl at h;split at h
 .rfl
 .cases h
theorem zb8 {G:GF} {R:List O->Rho->Option Rho} {n:Nat} (hR:∀os ρ ρ',R os ρ=some ρ'->os.length=n):∀os ρ ρ',zah G R os ρ=some ρ'->os.length=n+1:=fun os ρ ρ' h=>by
 unfold zah at h;split at h
 .split at h
  .rw[List.length_cons,hR _ _ _ h]
  .cases h
 .cases h
def sAsg (take:Rho->Rv->Option (O×Rho)) (A:EF) (G:GF):SF:=fun ρ=>match A ρ with
 | .bad=>.bad
 | .ok r ρ' _=>match take ρ' r with
  | some (o,ρ1)=>match G o ρ1 with
   | some ρ2=>.nx ρ2
   | none=>.bad
  | none=>.bad
 | .ex c ρ'=>.ex c ρ'
theorem zlQ {take:Rho->Rv->Option (O×Rho)} (ht:zh3 take) {A:EF} {G:GF} {D:Ends} {σ:St} {H:Hp} (h:tS X.mg X.K E L (sAsg take A G) D σ H):tAsg (tR X.mg X.K E A) (tTg X.mg X.K L G) D σ H:=by
 obtain ⟨W,ρ,f,ok,q⟩:=h;refine zhx ht ok ?_;unfold sAsg at q
 cases a:A ρ with
 | bad=>rw[a] at q;exact q
 | ex c ρ'=>rw[a] at q;exact fun H' W' f' s m=>q σ H' W' f' s m .refl
 | ok r ρ' k=>
  rw[a] at q;dsimp only at q ⊢
  cases b:take ρ' r with
  | none=>rw[b] at q;exact q
  | some z=>
   obtain ⟨o,ρ''⟩:=z;rw[b] at q;dsimp only at q ⊢
   cases c:G o ρ'' with
   | none=>rw[c] at q;exact False.elim q
   | some ρ2=>
    rw[c] at q;exact fun v H' W' f' As s ow nd ap m=>⟨W',ρ'',f',o,As,ρ2,s,ow,nd,ap,m.sub',m.dom',c,fun σ' f2 s2 i2 l2=>q σ' H' W' f2 s2 (m.narrow i2) l2⟩
theorem znt {take:Rho->Rv->Option (O×Rho)} {tg e:Expr} {A:EF} {G:GF} {pos:Pos} (ht:zh3 take) (he:VR X E e A) (hg:VG X L tg G) (hs:swapsWithSole [tg] e pos.line X.env=pure false:=by rfl) (hw:swappedStores [tg] e X.env=pure none:=by rfl)
  (h1:(assignEach [tg] X.env).map (·.2)=[assign tg X.env]:=by rfl):VS X E L (.Assign [tg] e pos) (sAsg take A G):=(znO he hg hs hw h1).imp fun D σ H h=>zlQ ht h
theorem zhD {take:Rho->Rv->Option (O×Rho)} {i:Nat} {x:Str} {e:Expr} {A:EF} {pos pos':Pos} (ht:zh3 take) (hN:X.N.Nodup) (hi:X.N[i]? = some x) (hx:Loc X.env.scope x) (hL:i∉L) (he:VR X E e A) (hs:swapsWith e (some (.Name x pos')) pos.line X.env=pure false:=by rfl) (hf:X.fn x=true\/X.env.scope.names.lookup x=some .local:=by first | exact .inl rfl | exact .inr rfl | assumption) :
  VS X E L (.Assign [.Name x pos'] e pos) (sAsg take A (gtN i)):=(zrV hN hi hx he hs hf).imp fun D σ H h=>tR.mono (zlQ ht h) fun v H1 hx__=>by
 obtain ⟨W,ρ,f,o,B,ρ',sl,ow,nd,ap,sb,dm,e,q⟩:=hx__;unfold gtN at e
 by_cases hi:i < ρ.length
 .rw[if_pos hi] at e;cases e;exact q _ _ (sl.bind i ow nd ap hi) (fun x hx=>hx.set) (zfS hL)
 .rw[if_neg hi] at e;cases e
def slI (ρ:Rho) (i:Nat):Option Int:=match ρ[i]? with
 | some o=>decI o
 | none=>none
theorem zsc {ρ:Rho} {i:Nat} {a:Int} (h:slI ρ i=some a):ρ[i]? = some ⇑a:=by
 unfold slI at h
 cases e:ρ[i]? with
 | none=>rw[e] at h;cases h
 | some o=>
  rw[e] at h;dsimp only at h;unfold decI at h;split at h
  .cases h;rfl
  .cases h
def sAug (i:Nat) (A:EF) (g:Int->Int->Int):SF:=fun ρ=>match slI ρ i with
 | some a=>match eSc decI A ρ with
  | .bad=>.bad
  | .ex c ρ'=>.ex c ρ'
  | .ok b ρ' _=>if i < ρ'.length then .nx (ρ'.set i ⇑(g a b)) else .bad
 | none=>.bad
theorem znR {i:Nat} {x:Str} {e:Expr} {A:EF} {op:Operator} {g:Int->Int->Int} {pos pos':Pos} (hN:X.N.Nodup) (hi:X.N[i]? = some x) (hx:Loc X.env.scope x) (hL:i∉L) (he:VR X E e A) (ho:PIp X op (ipI g)) (hf:X.fn x=true\/X.env.scope.names.lookup x=some .local:=by first | exact .inl rfl | exact .inr rfl | assumption) :
  VS X E L (.AugAssign (.Name x pos') op e pos) (sAug i A g):=(zru hN hi hx he ho hf).imp fun D σ H hx__=>by
 obtain ⟨W,ρ,f,ok,q⟩:=hx__;unfold sAug at q
 cases ea:slI ρ i with
 | some a=>
  rw[ea] at q;dsimp only at q;rcases ok.s.sl i _ (zsc ea) with ⟨z,_⟩ | ⟨v,h1,h2⟩
  .cases z
  .refine ⟨v,h1,tR.mono (toI (E:=E) (X:=X) (B:=A) (Q:=fun b H1=>∃W' ρ' f',Sl X.mg X.K H1 W' σ ρ' f'/\Mv (Inn f) H W (Inn f') H1 W'/\i < ρ'.length/\∀σ' H' W' f',Sl X.mg X.K H' W' σ' (ρ'.set i ⇑(g a b)) f'->Mv (Inn f) H W (Inn f') H' W'->Held L σ σ'->D.nx σ' H') ⟨W,ρ,f,ok, ?_⟩) fun u H1 ⟨b,e,W',ρ',f',s1,m1,hl,q⟩=>⟨a,b,h2.int,e, ?_⟩⟩
   .cases c:eSc decI A ρ with
    | bad=>rw[c] at q;exact q
    | ex c ρ'=>rw[c] at q;exact fun H' W' f' s m=>q σ H' W' f' s m .refl
    | ok b ρ' k=>
     rw[c] at q;dsimp only at q;intro H' W' f' s m k
     by_cases hl:i < ρ'.length
     .rw[if_pos hl] at q;exact ⟨W',ρ',f',s,m,hl,q⟩
     .rw[if_neg hl] at q;exact False.elim q
   .exact q _ _ W' _ (s1.bind i (B:=[]) ⇑_ List.nodup_nil (fun x z=>nomatch z) hl) (m1.narrow fun x hx=>hx.set.resolve_right fun z=>nomatch z) (zfS hL)
 | none=>rw[ea] at q;exact False.elim q
end
section
variable {mg:Str->Option Value} {K:PySem.W.Frag} {H:Hp} {W:Addr->Prop} {σ:St} {ρ:Rho} {f:Fp}
theorem Sl.put {i:Nat} {p:List Nat} {oi:O} {os os':List O} {a:Addr} {u:V} {vs':List V} {A:List Addr} (s:Sl mg K H W σ ρ f) (sb:∀x,Inn f x->W x) (hi:ρ[i]? = some oi) (hu:σ[i]? = some (some u)) (hv:VAt H p u (.ref a)) (hs:sub p oi=some (.l os))
  (hA:∀x∈A,¬Inn f x)
  (h:∀vs B,Ows mg K H W vs os B->H a=some (.lst vs)->B.Nodup->a∉B->(∀x∈B,Inn f x)->Inn f a->∃C,Ows mg K (upd H a (.lst vs')) W vs' os' C/\C.Nodup/\a∉C/\∀x∈C,x∈B\/x∈A) :
  Inn f a/\∃f',Sl mg K (upd H a (.lst vs')) W σ (ρ.set i (put p (.l os') oi)) f'/\∀x,Inn f' x->Inn f x\/x∈A:=by
 rcases s.sl i oi hi with ⟨rfl,_⟩ | ⟨u',h1,ow⟩
 .cases p<;>cases hs
 .rw[hu] at h1;cases h1;have hin:a∈f i:=by
   obtain ⟨v',C,k1,k2,k3⟩:=ow.sub hs
   cases k1.inj hv
   cases k2 with
   | l _ _=>exact k3.subset List.mem_cons_self
  have ha:W a:=sb a ⟨i,hin⟩;obtain ⟨C,c1,c2,c3,_⟩:=ow.put (s.fam.nd i) hs hv ha (fun vs B x1 x2 x3 x4 x5=>h vs B x1 x2 x3 x4 (fun x hx=>⟨i,x5 x hx⟩) ⟨i,hin⟩) (fun x hx z=>hA x hx ⟨i,z⟩);have m:DMv H W (upd H a (.lst vs')) W:=fun c ob hc nc=>⟨by rw[zaJ (fun z=>nc (by rw[z];exact ha))];exact hc,nc⟩
  refine ⟨⟨i,hin⟩,fset f i C,⟨fun j o e=>?_,fun j hj=>?_,by rw[List.length_set];exact s.len,s.fam.set c2 fun x hx j hj z=>?_⟩,fun x hx=>?_⟩
  .by_cases q:j=i
   .subst q;have hl:j < ρ.length:=(List.getElem?_eq_some_iff.mp hi).1;rw[List.getElem?_set_self hl] at e;cases e;exact .inr ⟨u,hu,by rw[zbr];exact c1⟩
   .rw[List.getElem?_set_ne (Ne.symm q)] at e;rw[zbI q];exact (s.sl j o e).imp id fun ⟨v,g1,g2⟩=>⟨v,g1,g2.on m fun x hx=>zaJ fun z=>s.fam.ap j i q x hx (z ▸ hin)⟩
  .rw[List.length_set] at hj;have hl:i < ρ.length:=(List.getElem?_eq_some_iff.mp hi).1;rw[zbI ∅];exact s.no j hj
  .rcases c3 x hx with y | y
   .exact s.fam.ap i j (Ne.symm hj) x y z
   .exact hA x y ⟨j,z⟩
  .rcases hx.set with hx | hx
   .exact .inl hx
   .exact (c3 x hx).imp (fun z=>⟨i,z⟩) id
end
def zdG (ρ:Rho) (r:Rv) (h:List O->Option (List O)):Option Rho:=match r with
 | .own (.l os)=>(h os).map fun _=>ρ
 | .own _=>none
 | .at i p=>match ρ[i]? with
  | some oi=>match sub p oi with
   | some (.l os)=>match h os with
    | some os'=>some (ρ.set i (put p (.l os') oi))
    | none=>none
   | _=>none
  | none=>none
section
variable {mg:Str->Option Value} {K:PySem.W.Frag} {H:Hp} {W:Addr->Prop} {σ:St} {ρ ρ':Rho} {f:Fp}
theorem zhh {r:Rv} {v:V} {C A:List Addr} {g:List O->Option (List O)} {hv:List V->List V} (s:Sl mg K H W σ ρ f) (sb:∀x,Inn f x\/x∈C\/x∈A->W x) (dm:∀x,W x->H x≠none) (hr:RvOk mg K H W σ v r C) (hC:∀x∈C,¬Inn f x) (hA:∀x∈A,¬Inn f x) (hCA:∀x∈C,x∉A) (e:zdG ρ r g=some ρ')
  (h:∀(H':Hp) vs os os' B,g os=some os'->DMv H W H' W->(∀x∈B,H' x=H x)->(∀x∈A,H' x=H x)->Ows mg K H W vs os B->B.Nodup->(∀x∈A,x∉B)->∃D,Ows mg K H' W (hv vs) os' D/\D.Nodup/\∀x∈D,x∈B\/x∈A) :
  ∃a vs os os',v=.ref a/\H a=some (.lst vs)/\g os=some os'/\vs.length=os.length/\(Inn f a\/a∈C)/\∃f',Sl mg K (upd H a (.lst (hv vs))) W σ ρ' f'/\∀x,Inn f' x->Inn f x\/x∈A:=by
 cases r with
 | own o=>
  cases o with
  | l os=>
   rw[zdG] at e
   cases e1:g os with
   | none=>rw[e1] at e;cases e
   | some os'=>
    rw[e1] at e;cases e
    cases hr.1 with
    | @l a vs _ As h1 h2=>
     have hw:W a:=sb a (.inr (.inl List.mem_cons_self));refine ⟨a,vs,os,os',rfl,h1,e1,h2.length,.inr List.mem_cons_self,f,s.on (fun c ob hc nc=>⟨by rw[zaJ (fun z=>nc (by rw[z];exact hw))];exact hc,nc⟩) fun x hx=>zaJ fun z=>hC a List.mem_cons_self (z ▸ hx),fun x hx=>.inl hx⟩
  | _=>cases e
 | «at» i p=>
  rw[zdG] at e
  cases e1:ρ[i]? with
  | none=>rw[e1] at e;cases e
  | some oi=>
   rw[e1] at e;dsimp only at e
   cases e2:sub p oi with
   | none=>rw[e2] at e;cases e
   | some n=>
    rw[e2] at e
    cases n with
    | l os=>
     dsimp only at e
     cases e3:g os with
     | none=>rw[e3] at e;cases e
     | some os'=>
      rw[e3] at e;cases e;obtain ⟨_,u,h1,h2⟩:=hr;rcases s.sl i oi e1 with ⟨rfl,_⟩ | ⟨u',g1,ow⟩
      .cases p<;>cases e2
      .rw[h1] at g1;cases g1;obtain ⟨w,D,k1,k2,k3⟩:=ow.sub e2
       cases k1.inj h2
       cases k2 with
       | @l a vs _ As hl ht=>
        have sb':∀x,Inn f x->W x:=fun x hx=>sb x (.inl hx)
        have hw:W a:=sb' a ⟨i,k3.subset List.mem_cons_self⟩;obtain ⟨hin,f',p1,p2⟩:=s.put (os':=os') (vs':=hv vs) (A:=A) sb' e1 h1 h2 e2 hA fun vs2 B o2 hvs nd na inB ina=>by
         rw[hl] at hvs;cases hvs;obtain ⟨D',d1,d2,d3⟩:=h (upd H a (.lst (hv vs))) vs os os' B e3 (fun c ob hc nc=>⟨by rw[zaJ (fun z=>nc (by rw[z];exact hw))];exact hc,nc⟩) (fun x hx=>zaJ fun z=>na (z ▸ hx)) (fun x hx=>zaJ fun z=>hA x hx (z ▸ ina)) o2 nd fun x hx z=>hA x hx (inB x z)
         exact ⟨D',d1,d2,fun z=>(d3 a z).elim na fun y=>hA a y ina,d3⟩
        exact ⟨a,vs,os,os',rfl,hl,e3,ht.length,.inl hin,f',p1,p2⟩
    | _=>cases e
end
section
variable {X:Cx} {E:XK} {L:List Nat}
theorem twoT {mg:Str->Option Value} {K:PySem.W.Frag} {σ:St} {H:Hp} {A B:EF} {T:V->Hp->Prop} {R:V->V->Hp->Prop} {W:Addr->Prop} {ρ:Rho} {f:Fp} (ok:Ok mg K H W σ ρ f)
  (h:match A ρ with
   | .bad=>False
   | .ex c ρ'=>∀H' W' f',Sl mg K H' W' σ ρ' f'->Mv (Inn f) H W (Inn f') H' W'->XW mg K E c H'
   | .ok ra ρ1 q1=>(∀v H' W' f' C,Sl mg K H' W' σ ρ1 f'->RvOk mg K H' W' σ v ra C->T v H')/\match B ρ1 with
    | .bad=>False
    | .ex c ρ'=>∀H' W' f',Sl mg K H' W' σ ρ' f'->Mv (Inn f) H W (Inn f') H' W'->XW mg K E c H'
    | .ok rb ρ2 q2=>pok ρ1 q2 ra=true/\∀v u H' W' f' C D,Sl mg K H' W' σ ρ2 f'->RvOk mg K H' W' σ v ra C->RvOk mg K H' W' σ u rb D->(∀x∈C,¬Inn f' x)->(∀x∈D,¬Inn f' x)->(∀x∈C,x∉D)->
      Mv (Inn f) H W (fun x=>Inn f' x\/x∈C\/x∈D) H' W'->R v u H') :
  tR mg K E A σ H fun x H1=>T x H1/\tR mg K E B σ H1 fun y H2=>R x y H2:=by
 refine ⟨W,ρ,f,ok, ?_⟩
 cases a:A ρ with
 | bad=>rw[a] at h;exact h
 | ex c ρ'=>rw[a] at h;exact h
 | ok ra ρ1 q1=>
  rw[a] at h;intro v H1 W1 f1 C s1 r1 n1 m1 k1;have ok1:Ok mg K H1 W1 σ ρ1 f1:=⟨s1,fun x hx=>m1.sub' x (.inl hx),m1.dom'⟩;refine ⟨h.1 v H1 W1 f1 C s1 r1,W1,ρ1,f1,ok1, ?_⟩;have h:=h.2;have hC:∀x∈C,W1 x/\¬Inn f1 x:=fun x hx=>⟨m1.sub' x (.inr hx),n1 x hx⟩
  cases b:B ρ1 with
  | bad=>rw[b] at h;exact h
  | ex c ρ'=>
   rw[b] at h;exact fun H2 W2 f2 s2 m2=>h H2 W2 f2 s2 (m1.trans (m2.wide (fun x hx=>.inl hx) m1.sub'))
  | ok rb ρ2 q2=>
   rw[b] at h;obtain ⟨hp,h⟩:=h;intro u H2 W2 f2 D s2 r2 n2 m2 k2;have m2':Mv (fun x=>Inn f1 x\/x∈C) H1 W1 (fun x=>Inn f2 x\/x∈C\/x∈D) H2 W2:=
    ⟨fun b o e n=>m2.same b o e fun z=>n (.inl z),m2.less,fun x w=>(m2.more x w).imp .inl id,fun x w=>by
     rcases w with w | w | w
     .exact (m2.ours x (.inl w)).imp .inl id
     .exact .inl (.inr w)
     .exact (m2.ours x (.inr w)).imp .inl id,m1.sub',m2.dom,fun x w=>by
     rcases w with w | w | w
     .exact m2.sub' x (.inl w)
     .exact (m2.hand (hC x w).1 (hC x w).2).1
     .exact m2.sub' x (.inr w),m2.dom'⟩
   exact h v u H2 W2 f2 C D s2 (r1.on s1 hC m2 k2 hp) r2 (fun x hx z=>m2.apart (hC x hx).1 (hC x hx).2 (.inl z)) n2 (fun x hx z=>m2.apart (hC x hx).1 (hC x hx).2 (.inr z)) (m1.trans m2')
def isL (ρ:Rho) (r:Rv):Bool:=match vn ρ r with
 | some o=>match els o with
  | some (true,_)=>true
  | _=>false
 | none=>false
theorem zn8 {mg:Str->Option Value} {K:PySem.W.Frag} {H:Hp} {W:Addr->Prop} {σ:St} {ρ:Rho} {f:Fp} {v:V} {r:Rv} {B:List Addr} (h:isL ρ r=true) (s:Sl mg K H W σ ρ f) (hr:RvOk mg K H W σ v r B):tyV K "list" v H:=by
 unfold isL at h
 cases e:vn ρ r with
 | none=>rw[e] at h;cases h
 | some o=>
  rw[e] at h;dsimp only at h;obtain ⟨a1,a2⟩:=zc0 e;obtain ⟨C,ow,_⟩:=s.vw hr a1 a2
  cases e2:els o with
  | none=>rw[e2] at h;cases h
  | some z=>
   obtain ⟨k,os⟩:=z;rw[e2] at h
   cases k with
   | false=>cases h
   | true=>
    obtain ⟨a,vs,A,rfl,h2,h3,_⟩:=ow.els e2;exact .inl ⟨rfl,vs,SqL.of h2⟩
def eApp (C A:EF):EF:=fun ρ=>(C ρ).bind fun rc ρ1 q1=>if isL ρ1 rc then (A ρ1).bind fun ra ρ2 q2=>if pok ρ1 q2 rc then match coe ρ2 ra with
  | some (o,ρ3)=>match zdG ρ3 rc fun os=>if os.length < sizeLine then some (os++[o]) else none with
   | some ρ4=>.ok (.own (.d .none)) ρ4 false
   | none=>.bad
  | none=>.bad
 else .bad else .bad
theorem zsj {c e:Expr} {C A:EF} {apos cpos:Pos} (hc:VR X E c C) (he:VR X E e A) (h:PE X (.Call (.Attribute c "append" apos) [e] [] cpos) (tBM X.K "list" ziM (tR X.mg X.K E C) (zkb (tR X.mg X.K E A) tNil))):VR X E (.Call (.Attribute c "append" apos) [e] [] cpos) (eApp C A):=h.imp fun σ H Q hx__=>by
 obtain ⟨W,ρ,f,ok,q⟩:=hx__;refine twoT (T:=tyV X.K "list") ok ?_;unfold eApp at q
 cases a:C ρ with
 | bad=>rw[a] at q;exact q
 | ex c ρ'=>rw[a] at q;exact q
 | ok rc ρ1 q1=>
  rw[a] at q;dsimp only[Re.bind] at q ⊢
  by_cases hl:isL ρ1 rc=true
  .rw[if_pos hl] at q;refine ⟨fun v H' W' f' C s r=>zn8 hl s r, ?_⟩
   cases b:A ρ1 with
   | bad=>rw[b] at q;exact q
   | ex c ρ'=>rw[b] at q;exact q
   | ok ra ρ2 q2=>
    rw[b] at q;dsimp only at q ⊢
    by_cases hp:pok ρ1 q2 rc=true
    .rw[if_pos hp] at q;refine ⟨hp,fun v u H' W' f' C D s r1 r2 n1 n2 n3 m=>?_⟩
     cases e1:coe ρ2 ra with
     | none=>rw[e1] at q;exact False.elim q
     | some z=>
      obtain ⟨o,ρ3⟩:=z;rw[e1] at q;dsimp only at q
      cases e2:zdG ρ3 rc fun os=>if os.length < sizeLine then some (os++[o]) else none with
      | none=>rw[e2] at q;exact False.elim q
      | some ρ4=>
       rw[e2] at q;obtain ⟨W3,f3,s3,g3,B,ow,nd,inB⟩:=zgu s (fun x hx=>m.sub' x (.inl hx)) r2 e1;have keep:∀x,(x∈C\/x∈B)->W3 x/\¬Inn f3 x:=fun x hx=>by
        have hx':x∈C\/x∈D:=hx.imp id (inB x);have nf:¬Inn f' x:=hx'.elim (n1 x) (n2 x);exact ⟨(g3.more x (m.sub' x (.inr hx'))).resolve_left nf,fun z=>nf (g3.ours x z)⟩
       obtain ⟨p,vs,os,os',rfl,h1,h2,h3,h4,f4,s4,in4⟩:=zhh (hv:=fun vs=>vs++[u]) s3 (fun x hx=>hx.elim (g3.sub x) fun hx=>(keep x hx).1) (fun x hx=>m.dom' x (g3.less x hx)) (r1.weak g3.less) (fun x hx=>(keep x (.inl hx)).2) (fun x hx=>(keep x (.inr hx)).2) (fun x hx z=>n3 x hx (inB x z)) e2 (fun H2 vs os os' B' ho dm hB' hA ows ndB dj=>by
        by_cases hz:os.length < sizeLine
        .rw[if_pos hz] at ho;cases ho;refine ⟨B'++(B++[]),Ows.app (ows.on dm hB') (.cons (ow.on dm hA) .nil), ?_,fun x hx=>?_⟩
         .rw[List.append_nil];exact List.nodup_append.mpr ⟨ndB,nd,fun x hx y hy z=>dj y hy (z ▸ hx)⟩
         .rw[List.append_nil] at hx;exact List.mem_append.mp hx
        .rw[if_neg hz] at ho;cases ho)
       have hlen:vs.length < sizeLine:=by
        by_cases hz:os.length < sizeLine
        .rw[h3];exact hz
        .rw[if_neg hz] at h2;cases h2
       refine ⟨p,vs,u,rfl,rfl,h1,hlen,q .non _ W3 f4 [] s4 ⟨.d .non,List.nodup_nil⟩ (fun x z=>nomatch z) ?_ (fun z=>nomatch z)⟩;have mg3:Mv (fun x=>Inn f' x\/x∈C\/x∈D) H' W' (fun x=>Inn f3 x\/x∈C\/x∈B) H' W3:=
        ⟨fun _ _ h _=>h,fun x h=>.inl (g3.less x h),fun x h=>(g3.more x h).imp .inl id,fun x h=>.inl (h.imp (g3.ours x) fun z=>z.imp id (inB x)),m.sub',m.dom',fun x h=>h.elim (g3.sub x) fun z=>(keep x z).1,fun x h=>m.dom' x (g3.less x h)⟩
       refine ((m.trans mg3).trans (Mv.put (o:=.lst (vs++[u])) mg3.sub' mg3.dom' (h4.imp id .inl))).narrow fun x hx=>?_
       exact (in4 x (hx.resolve_right fun z=>nomatch z)).imp id .inr
    .rw[if_neg hp] at q;exact False.elim q
  .rw[if_neg hl] at q;exact False.elim q
def sSub (take:Rho->Rv->Option (O×Rho)) (A C B:EF):SF:=fun ρ=>match A ρ with
 | .bad=>.bad
 | .ex c ρ'=>.ex c ρ'
 | .ok r ρ' _=>match take ρ' r with
  | none=>.bad
  | some (o,ρ1)=>match C ρ1 with
   | .bad=>.bad
   | .ex c ρ'=>.ex c ρ'
   | .ok rc ρ2 _=>match eSc decI B ρ2 with
    | .bad=>.bad
    | .ex c ρ'=>.ex c ρ'
    | .ok k ρ3 q3=>if pok ρ2 q3 rc then match zdG ρ3 rc fun os=>(ixN os.length k).map fun j=>os.set j o with
      | some ρ4=>.nx ρ4
      | none=>.bad
     else .bad
theorem Ows.setAt {mg:Str->Option Value} {K:PySem.W.Frag} {H:Hp} {W:Addr->Prop}:∀{vs:List V} {os:List O} {As:List Addr} {k:Nat} {v:V} {o:O} {A:List Addr},Ows mg K H W vs os As->Ow mg K H W v o A->As.Nodup->A.Nodup->(∀x∈A,x∉As)->∃D,Ows mg K H W (vs.set k v) (os.set k o) D/\D.Nodup/\∀x∈D,x∈As\/x∈A
 | _,_,_,k,_,_,_,.nil,_,_,_,_=>⟨[],.nil,List.nodup_nil,fun _ z=>nomatch z⟩
 | _,_,_,0,v,o,A,.cons (A:=B) (B:=C) a b,h,nd,nA,dj=>by
  obtain ⟨n1,n2,n3⟩:=List.nodup_append.mp nd;refine ⟨A++C,.cons h b,List.nodup_append.mpr ⟨nA,n2,fun x hx y hy z=>dj x hx (List.mem_append_right _ (z ▸ hy))⟩,fun x hx=>?_⟩;exact (List.mem_append.mp hx).elim .inr fun z=>.inl (List.mem_append_right _ z)
 | _,_,_,k+1,v,o,A,.cons (A:=B) (B:=C) a b,h,nd,nA,dj=>by
  obtain ⟨n1,n2,n3⟩:=List.nodup_append.mp nd;obtain ⟨D,d1,d2,d3⟩:=Ows.setAt (k:=k) b h n2 nA fun x hx z=>dj x hx (List.mem_append_right _ z)
  refine ⟨B++D,.cons a d1,List.nodup_append.mpr ⟨n1,d2,fun x hx y hy z=>?_⟩,fun x hx=>?_⟩
  .subst z;rcases d3 x hy with q | q
   .exact n3 x hx x q rfl
   .exact dj x q (List.mem_append_left _ hx)
  .rcases List.mem_append.mp hx with q | q
   .exact .inl (List.mem_append_left _ q)
   .exact (d3 x q).imp (List.mem_append_right _) id
theorem zqZ {take:Rho->Rv->Option (O×Rho)} {c b e:Expr} {A C B:EF} {pos pos':Pos} (ht:zh3 take) (he:VR X E e A) (hc:VR X E c C) (hb:VR X E b B)
  (hs:swapsWithSole [.Subscript c b pos'] e pos.line X.env=pure false:=by rfl) (hw:swappedStores [.Subscript c b pos'] e X.env=pure none:=by rfl)
  (h1:(assignEach [.Subscript c b pos'] X.env).map (·.2)=[assign (.Subscript c b pos') X.env]:=by rfl)
  (ha:∀v,assign (.Subscript c b pos') X.env v=(do
   let ov <-holding [v] (eval c X.env)
   let iv <-holding [v,ov] (eval b X.env)
   standAt pos'
   holding [v,ov,iv] (setItem ov iv v)
   release [v,ov,iv] []):=by intro _;rfl):VS X E L (.Assign [.Subscript c b pos'] e pos) (sSub take A C B):=(znO he (zsq hc hb zmL ha) hs hw h1).imp fun D σ H hx__=>by
 obtain ⟨W,ρ,f,ok,q⟩:=hx__;refine zhx ht ok ?_;unfold sSub at q
 cases a:A ρ with
 | bad=>rw[a] at q;exact q
 | ex c ρ'=>rw[a] at q;exact fun H' W' f' s m=>q σ H' W' f' s m .refl
 | ok r ρ' k0=>
  rw[a] at q;dsimp only at q ⊢
  cases b0:take ρ' r with
  | none=>rw[b0] at q;exact q
  | some z=>
   obtain ⟨o,ρ1⟩:=z;rw[b0] at q;dsimp only at q ⊢;intro v H1 W1 f1 As s1 ow nd ap m1;have ok1:Ok X.mg X.K H1 W1 σ ρ1 f1:=⟨s1,fun x hx=>m1.sub' x (.inl hx),m1.dom'⟩;have hAs:∀x∈As,W1 x/\¬Inn f1 x:=fun x hx=>⟨m1.sub' x (.inr hx),ap x hx⟩
   have wid:∀{H':Hp} {W':Addr->Prop} {f':Fp},Mv (Inn f1) H1 W1 (Inn f') H' W'->Mv (Inn f) H W (Inn f') H' W':=fun m=>m1.trans (m.wide (fun x hx=>.inl hx) m1.sub')
   refine tR.mono (twoG (G:=eSc decI B) (R:=fun x k H2=>zrS x (.int k) v H2 fun H3=>D.nx σ H3) ok1 ?_) fun x H2 h2=>tR.mono (toI h2) fun y H3 ⟨k,e,h3⟩=>by rw[e];exact h3
   cases c0:C ρ1 with
   | bad=>rw[c0] at q;exact q
   | ex c ρ'=>rw[c0] at q;exact fun H' W' f' s m=>q σ H' W' f' s (wid m) .refl
   | ok rc ρ2 q2=>
    rw[c0] at q;dsimp only at q ⊢
    cases d0:eSc decI B ρ2 with
    | bad=>rw[d0] at q;exact q
    | ex c ρ'=>rw[d0] at q;exact fun H' W' f' s m=>q σ H' W' f' s (wid m) .refl
    | ok k ρ3 q3=>
     rw[d0] at q;dsimp only at q ⊢
     by_cases hp:pok ρ2 q3 rc=true
     .rw[if_pos hp] at q;refine ⟨hp,fun u H2 W2 f2 Cc s2 r2 n2 m2 _=>?_⟩
      cases e2:zdG ρ3 rc fun os=>(ixN os.length k).map fun j=>os.set j o with
      | none=>rw[e2] at q;exact False.elim q
      | some ρ4=>
       rw[e2] at q;have hAs2:∀x∈As,W2 x/\H2 x=H1 x:=fun x hx=>m2.hand (hAs x hx).1 (hAs x hx).2
       have ap2:∀x∈As,¬(Inn f2 x\/x∈Cc):=fun x hx=>m2.apart (hAs x hx).1 (hAs x hx).2
       have ow2:Ow X.mg X.K H2 W2 v o As:=ow.on m2.d fun x hx=>(hAs2 x hx).2
       have pick:∀{os os':List O},(ixN os.length k).map (fun j=>os.set j o)=some os'->∃j,ixN os.length k=some j/\os'=os.set j o:=fun {os os'} h=>by
        cases e:ixN os.length k with
        | none=>rw[e] at h;cases h
        | some j=>rw[e] at h;cases h;exact ⟨j,rfl,rfl⟩
       obtain ⟨p,vs,os,os',rfl,h1,h2,h3,h4,f4,s4,in4⟩:=zhh (A:=As) (hv:=fun vs=>vs.set ((ixN vs.length k).getD 0) v) s2 (fun x hx=>hx.elim (fun z=>m2.sub' x (.inl z)) fun hx=>hx.elim (fun z=>m2.sub' x (.inr z)) fun z=>(hAs2 x z).1) m2.dom' r2 n2 (fun x hx z=>ap2 x hx (.inl z)) (fun x hx z=>ap2 x z (.inr hx)) e2 (fun H3 vs os os' B' ho dm hB' hA ows ndB dj=>by
        obtain ⟨j,e,rfl⟩:=pick ho;rw[ows.length,e];exact Ows.setAt (ows.on dm hB') (ow2.on dm hA) ndB nd dj)
       obtain ⟨j,e,rfl⟩:=pick h2;rw[h3,e] at s4;refine ⟨p,vs,k,j,rfl,rfl,h1,by rw[h3];exact e,q σ _ W2 f4 s4 ?_ .refl⟩;have mw:Mv (fun x=>Inn f1 x\/x∈As) H1 W1 (fun x=>(Inn f2 x\/x∈Cc)\/x∈As) H2 W2:=
        ⟨fun b o e n=>m2.same b o e fun z=>n (.inl z),m2.less,fun x w=>(m2.more x w).imp .inl id,fun x w=>w.elim (fun w=>(m2.ours x w).imp .inl id) fun w=>.inl (.inr w),m1.sub',m2.dom,fun x w=>w.elim (m2.sub' x) fun w=>(hAs2 x w).1,m2.dom'⟩
       exact ((m1.trans mw).trans (Mv.put (o:=.lst (vs.set j v)) mw.sub' mw.dom' (.inl h4))).narrow fun x hx=>(in4 x hx).imp .inl id
     .rw[if_neg hp] at q;exact False.elim q
end
def Aft (mg:Str->Option Value) (K:PySem.W.Frag) (E:XK) (L:List Nat) (D:Ends) (σ:St) (H:Hp) (W:Addr->Prop) (f:Fp):Rt->Prop
 | .bad=>False
 | .nx ρ'=>∀σ' H' W' f',Sl mg K H' W' σ' ρ' f'->Mv (Inn f) H W (Inn f') H' W'->Held L σ σ'->D.nx σ' H'
 | .br ρ'=>∀σ' H' W' f',Sl mg K H' W' σ' ρ' f'->Mv (Inn f) H W (Inn f') H' W'->Held L σ σ'->D.bk σ' H'
 | .ct ρ'=>∀σ' H' W' f',Sl mg K H' W' σ' ρ' f'->Mv (Inn f) H W (Inn f') H' W'->Held L σ σ'->D.ct σ' H'
 | .rt o ρ'=>∀v σ' H' W' f' B,Sl mg K H' W' σ' ρ' f'->Ow mg K H' W' v o B->B.Nodup->(∀x∈B,¬Inn f' x)->Mv (Inn f) H W (fun x=>Inn f' x\/x∈B) H' W'->Held L σ σ'->D.rt v H'
 | .ex c ρ'=>∀σ' H' W' f',Sl mg K H' W' σ' ρ' f'->Mv (Inn f) H W (Inn f') H' W'->Held L σ σ'->XW mg K E c H'
def forF (G:GF) (S:SF):List O->Rho->Rt
 | [],ρ=>.nx ρ
 | x::xs,ρ=>match G x ρ with
  | none=>.bad
  | some ρ1=>match S ρ1 with
   | .nx ρ2=>forF G S xs ρ2
   | .ct ρ2=>forF G S xs ρ2
   | .br ρ2=>.nx ρ2
   | r=>r
section
variable {mg:Str->Option Value} {K:PySem.W.Frag} {E:XK} {L:List Nat}
theorem tS.aft {G:SF} {D:Ends} {σ:St} {H:Hp} (h:tS mg K E L G D σ H):∃W ρ f,Ok mg K H W σ ρ f/\Aft mg K E L D σ H W f (G ρ):=by
 obtain ⟨W,ρ,f,ok,q⟩:=h;refine ⟨W,ρ,f,ok, ?_⟩
 cases a:G ρ<;>rw[a] at q<;>exact q
theorem tS.mk {G:SF} {D:Ends} {σ:St} {H:Hp} {W:Addr->Prop} {ρ:Rho} {f:Fp} (ok:Ok mg K H W σ ρ f) (q:Aft mg K E L D σ H W f (G ρ)):tS mg K E L G D σ H:=by
 refine ⟨W,ρ,f,ok, ?_⟩
 cases a:G ρ<;>rw[a] at q<;>exact q
theorem Aft.step {D:Ends} {σ σ1:St} {H H1:Hp} {W W1:Addr->Prop} {f f1:Fp} {r:Rt} (q:Aft mg K E L D σ H W f r) (m1:Mv (Inn f) H W (Inn f1) H1 W1) (l1:Held L σ σ1):Aft mg K E L D σ1 H1 W1 f1 r:=by
 cases r with
 | bad=>exact q
 | nx ρ'=>exact fun σ' H' W' f' s m l=>q σ' H' W' f' s (m1.trans m) (l1.trans l)
 | br ρ'=>exact fun σ' H' W' f' s m l=>q σ' H' W' f' s (m1.trans m) (l1.trans l)
 | ct ρ'=>exact fun σ' H' W' f' s m l=>q σ' H' W' f' s (m1.trans m) (l1.trans l)
 | rt o ρ'=>exact fun v σ' H' W' f' B s o nd ap m l=>q v σ' H' W' f' B s o nd ap (m1.trans m) (l1.trans l)
 | ex c ρ'=>exact fun σ' H' W' f' s m l=>q σ' H' W' f' s (m1.trans m) (l1.trans l)
theorem zfO {J:It} {items:List O} {G:GF} {S:SF} {D:Ends} {σ:St} {H1:Hp} {W1:Addr->Prop} {ρ1:Rho} {f1:Fp} (ok:Ok mg K H1 W1 σ ρ1 f1)
  (go:∀i H W',(∃A',Mv (Inn f1) H1 W1 A' H W')->i < items.length->J.go i H) (stop:∀H W',(∃A',Mv (Inn f1) H1 W1 A' H W')->J.stop items.length H)
  (yl:∀i H W' x H',(∃A',Mv (Inn f1) H1 W1 A' H W')->(∀x,W' x->H x≠none)->i < items.length->J.yld i H x H'->Gr H W' [] H' W'/\∃o,items[i]? = some o/\Ow mg K H' W' x o [])
  (q:Aft mg K E L D σ H1 W1 f1 (forF G S items ρ1)) :
  ∃W:Nat->Nat->St->Hp->Prop,(∃m,W 0 m σ H1)/\∀i m σ H,W i m σ H->
   (J.stop i H/\D.nx σ H)\/(J.go i H/\∃N:St->Hp->Prop,(∀σ' H',N σ' H'->∃m',m' < m/\W (i+1) m' σ' H')/\∀x H',J.yld i H x H'->tTg mg K L G x σ H' fun σ2 H2=>tS mg K E L S { D with nx:=N,ct:=N,bk:=D.nx } σ2 H2):=by
 let Pv:Nat->St->Hp->Prop:=fun i σ' H'=>∃W' ρ' f',Sl mg K H' W' σ' ρ' f'/\Mv (Inn f1) H1 W1 (Inn f') H' W'/\Held L σ σ'/\Aft mg K E L D σ H1 W1 f1 (forF G S (items.drop i) ρ')
 refine ⟨fun i m σ' H'=>m=items.length - i/\i<=items.length/\Pv i σ' H',⟨items.length,by simp,Nat.zero_le _,W1,ρ1,f1,ok.s,.refl ok.sub ok.dom,.refl,q⟩, ?_⟩
 rintro i m σ' H' ⟨rfl,hi,W',ρ',f',s',m',l',q'⟩
 by_cases hlt:i < items.length
 .refine .inr ⟨go i H' W' ⟨_,m'⟩ hlt,Pv (i+1),fun σ2 H2 p2=>⟨items.length - (i+1),by omega,rfl,hlt,p2⟩,fun x H2 y=>?_⟩;obtain ⟨g,o,eo,ow⟩:=yl i H' W' x H2 ⟨_,m'⟩ m'.dom' hlt y;have ed:items.drop i=o::items.drop (i+1):=by
   rw[List.drop_eq_getElem_cons hlt];rw[List.getElem?_eq_getElem hlt] at eo;cases eo;rfl
  rw[ed,forF] at q'
  cases e1:G o ρ' with
  | none=>rw[e1] at q';exact q'.elim
  | some ρ2=>
   rw[e1] at q';dsimp only at q';have s2:Sl mg K H2 W' σ' ρ' f':=s'.on g.d fun x hx=>g.kept m'.dom' (m'.sub' x hx)
   have m2:Mv (Inn f1) H1 W1 (Inn f') H2 W':=(m'.trans (g.mv m'.sub' m'.dom')).narrow fun x hx=>.inl hx
   refine ⟨W',ρ',f',o,[],ρ2,s2,ow,List.nodup_nil,fun x z=>(nomatch z),fun x hx=>m2.sub' x (hx.resolve_right fun z=>nomatch z),m2.dom',e1,fun σ3 f3 s3 i3 l3=>?_⟩;have m3:Mv (Inn f1) H1 W1 (Inn f3) H2 W':=m2.narrow fun x hx=>(i3 x hx).resolve_right fun z=>nomatch z
   refine tS.mk (.next s3 m3 fun _ z=>z) ?_
   cases e2:S ρ2 with
   | bad=>rw[e2] at q';exact q'
   | nx ρ3=>rw[e2] at q';exact fun σ4 H4 W4 f4 s4 m4 l4=>⟨W4,ρ3,f4,s4,m3.trans m4,(l'.trans l3).trans l4,q'⟩
   | ct ρ3=>rw[e2] at q';exact fun σ4 H4 W4 f4 s4 m4 l4=>⟨W4,ρ3,f4,s4,m3.trans m4,(l'.trans l3).trans l4,q'⟩
   | br ρ3=>rw[e2] at q';exact fun σ4 H4 W4 f4 s4 m4 l4=>q' σ4 H4 W4 f4 s4 (m3.trans m4) ((l'.trans l3).trans l4)
   | rt o ρ3=>rw[e2] at q';exact fun v σ4 H4 W4 f4 B s4 o nd ap m4 l4=>q' v σ4 H4 W4 f4 B s4 o nd ap (m3.trans m4) ((l'.trans l3).trans l4)
   | ex c ρ3=>rw[e2] at q';exact fun σ4 H4 W4 f4 s4 m4 l4=>q' σ4 H4 W4 f4 s4 (m3.trans m4) ((l'.trans l3).trans l4)
 .have e:i=items.length:=by omega
  subst e;rw[List.drop_length] at q';exact .inl ⟨stop H' W' ⟨_,m'⟩,q' σ' H' W' f' s' m' l'⟩
end
def sFor (I:Rho->Re (List O)) (G:GF) (S:SF):SF:=fun ρ=>match I ρ with
 | .bad=>.bad
 | .ex c ρ'=>.ex c ρ'
 | .ok items ρ' _=>forF G S items ρ'
def rngO (lo:Int) (n:Nat):List O:=(List.range n).map fun (k:Nat)=>⇑(lo+k)
def okR (j:Int):Bool:=decide (-4611686018427387904<=j/\j < 4611686018427387904)
def itR1 (A:EF):Rho->Re (List O):=fun ρ=>(eSc decI A ρ).bind fun j ρ1 q=>if okR j then .ok (rngO 0 j.toNat) ρ1 q else .bad
def zc6:Nat->List PyData->List O
 | _,[]=>[]
 | k,d::ds=>.d (.tuple [.int k,d])::zc6 (k+1) ds
def itE (A:EF):Rho->Re (List O):=fun ρ=>(A ρ).bind fun r ρ1 q=>match coe ρ1 r with
 | some (o,ρ2)=>match fz o with
  | some (.list ds)=>.ok (zc6 0 ds) ρ2 q
  | _=>.bad
 | none=>.bad
theorem zdg:∀(k:Nat) (ds:List PyData),(zc6 k ds).length=ds.length
 | _,[]=>rfl
 | k,d::ds=>by simp[zc6,zdg]
theorem zdf:∀(k:Nat) (ds:List PyData) (i:Nat),(zc6 k ds)[i]? = (ds[i]?).map fun d=>O.d (.tuple [.int ((k+i:Nat):Int),d])
 | _,[],i=>by simp[zc6]
 | k,d::ds,0=>by simp[zc6]
 | k,d::ds,i+1=>by
  rw[zc6,List.getElem?_cons_succ,zdf (k+1) ds i,List.getElem?_cons_succ]
  congr 2
  funext d
  rw[show k+1+i=k+(i+1) by omega]
section
variable {X:Cx} {E:XK} {L:List Nat}
theorem zlM {mk:List PyData->List O} {A:EF} {σ:St} {H:Hp} {W:Addr->Prop} {ρ:Rho} {f:Fp} {T:List O->SF} {D:Ends} {R:V->Hp->Prop} (ok:Ok X.mg X.K H W σ ρ f)
  (q:Aft X.mg X.K E L D σ H W f (match ((A ρ).bind fun r ρ1 q=>match coe ρ1 r with
    | some (o,ρ2)=>match fz o with
     | some (.list ds)=>Re.ok (mk ds) ρ2 q
     | _=>.bad
    | none=>.bad:Re (List O)) with
   | .bad=>.bad
   | .ex c ρ'=>.ex c ρ'
   | .ok items ρ' _=>T items ρ'))
  (h:∀a xs ds H' W' f' ρ',Sl X.mg X.K H' W' σ ρ' f'->Mv (Inn f) H W (Inn f') H' W'->H' a=some (.lst xs)->¬W' a->Dns H' W' xs ds->Aft X.mg X.K E L D σ H W f (T (mk ds) ρ')->R (.ref a) H') :
  tR X.mg X.K E A σ H R:=by
 refine zhx za0 ok ?_
 cases a:A ρ with
 | bad=>rw[a] at q;exact q
 | ex c ρ'=>rw[a] at q;exact fun H' W' f' s m=>q σ H' W' f' s m .refl
 | ok r ρ1 k=>
  rw[a] at q;dsimp only[Re.bind] at q ⊢
  cases b:coe ρ1 r with
  | none=>rw[b] at q;exact q
  | some z=>
   obtain ⟨o,ρ2⟩:=z;rw[b] at q;dsimp only at q ⊢;intro v H' W' f' As s ow nd ap m
   cases c:fz o with
   | none=>rw[c] at q;exact False.elim q
   | some x=>
    rw[c] at q
    cases x with
    | list ds=>
     have dn:Dn H' (fun x=>W' x/\x∉As) v (.list ds):=ow.dn (fun _ z=>z.1) c fun x hx z=>z.2 hx
     cases dn with
     | @lst a xs _ n1 h1 t1=>
      refine h a xs ds H' (fun x=>W' x/\x∉As) f' ρ2 (s.on (DMv.weak fun _ z=>z.1) fun _ _=>rfl) ⟨m.same,fun x z=>m.less x z.1,fun x w=>?_,fun x hx=>m.ours x (.inl hx),m.sub,m.dom,fun x hx=>⟨m.sub' x (.inl hx),fun z=>ap x z hx⟩,fun x z=>m.dom' x z.1⟩ h1 n1 t1 q;rcases m.more x w with z | z
      .exact .inl z
      .by_cases y:x∈As
       .exact (m.ours x (.inr y)).imp id fun z=>absurd z (m.dom x w)
       .exact .inr ⟨z,y⟩
    | _=>exact False.elim q
theorem zlE {elts:List Expr} {kk:Nat} {tp:Pos} {e:Expr} {body:List Stmt} {A:EF} {G:GF} {S:SF} {p cpos pos:Pos} (hp:PassesOwn (model X.prog X.w) X.A X.env X.xe) (hc:X.calm=true) (hgl:Gl X "enumerate") (hm:X.mg "enumerate"=none) (hi:VR X E e A) (hg:VG X L (.Tuple elts kk tp) G) (hb:VSs X E L body S)
  (hst:starEach [e] X.env=[(false,eval e X.env)]:=by rfl)
  (hs:∀x,foldedSetIterable (.Call (.Name "enumerate" p) [e] [] cpos) X.env x=pure x:=by intro _;rfl):VS X E L (.For (.Tuple elts kk tp) (.Call (.Name "enumerate" p) [e] [] cpos) body [] pos) (sFor (itE A) G S):=(zja hp hc (pi_E hgl hm (zdP hi zeQ hst) hst) hg hb hs).imp fun D σ H h=>by
 obtain ⟨W,ρ,f,ok,q⟩:=h.aft;refine zlM (mk:=fun ds=>zc6 0 ds) (T:=fun items=>forF G S items) ok q fun a xs ds H' W' f' ρ' s m ha na dn q=>⟨a,xs,rfl,ha, ?_⟩
 refine zfO (items:=zc6 0 ds) (.next s m fun _ z=>z) (fun i H2 W2 ⟨_,mm⟩ hi=>?_) (fun H2 W2 ⟨_,mm⟩=>?_) (fun i H2 W2 x H3 ⟨_,mm⟩ dd hi y=>?_) (q.step m .refl)
 .rw[zdg,<-dn.length] at hi;exact ⟨xs,xs[i],(mm.d a _ ha na).1,by simp[hi]⟩
 .exact ⟨xs,(mm.d a _ ha na).1,by rw[zdg,dn.length];exact Nat.le_refl _⟩
 .obtain ⟨t,z,rfl,ht,rfl,y⟩:=y;have hx:=y xs (mm.d a _ ha na).1;obtain ⟨d,e1,e2⟩:=dn.getV hx;have g:Gr H2 W2 [] (upd H2 t (.tup [.int i,z])) W2:=.new ht;exact ⟨g,_,by rw[zdf,e1];rfl,.d (.tup (fun w=>dd t w ht) zbx (.cons (by rw[Nat.zero_add];exact .int _) (.cons ((e2.on mm.d).on g.d) .nil)))⟩
theorem zfN {tg a:Expr} {body:List Stmt} {A:EF} {G:GF} {S:SF} {p cpos pos:Pos} (hp:PassesOwn (model X.prog X.w) X.A X.env X.xe) (hc:X.calm=true) (hgl:Gl X "range") (hm:X.mg "range"=none) (ha:VR X E a A) (hg:VG X L tg G) (hb:VSs X E L body S)
  (hst:starEach [a] X.env=[(false,eval a X.env)]:=by rfl)
  (hs:∀x,foldedSetIterable (.Call (.Name "range" p) [a] [] cpos) X.env x=pure x:=by intro _;rfl):VS X E L (.For tg (.Call (.Name "range" p) [a] [] cpos) body [] pos) (sFor (itR1 A) G S):=(zja hp hc (zf0 hgl hm (zdP ha zeQ hst) hst) hg hb hs).imp fun D σ H h=>by
 obtain ⟨W,ρ,f,ok,q⟩:=h.aft;refine tR.mono (toI (X:=X) (E:=E) (B:=A) (Q:=fun j H1=>okR j=true/\∃W1 ρ1 f1,Sl X.mg X.K H1 W1 σ ρ1 f1/\Mv (Inn f) H W (Inn f1) H1 W1/\Aft X.mg X.K E L D σ H W f (forF G S (rngO 0 j.toNat) ρ1)) ⟨W,ρ,f,ok, ?_⟩) fun v H1 hx1=>?_
 .unfold sFor itR1 at q
  cases c:eSc decI A ρ with
  | bad=>rw[c] at q;exact q
  | ex c ρ'=>rw[c] at q;exact fun H' W' f' s m=>q σ H' W' f' s m .refl
  | ok j ρ1 k=>
   rw[c] at q;dsimp only[Re.bind] at q;intro H1 W1 f1 s m _
   by_cases hr:okR j=true
   .rw[if_pos hr] at q;exact ⟨hr,W1,ρ1,f1,s,m,q⟩
   .rw[if_neg hr] at q;exact False.elim q
 .obtain ⟨j,e,hr,W1,ρ1,f1,s,m,q⟩:=hx1;have hr':=of_decide_eq_true hr;refine ⟨j,by rw[e],hr'.1,hr'.2,zfO (items:=rngO 0 j.toNat) (.next s m fun _ z=>z) (fun i H2 W2 ⟨_,mm⟩ hi=>?_) (fun H2 W2 ⟨_,mm⟩=>?_) (fun i H2 W2 x H3 ⟨_,mm⟩ dd hi y=>?_) (q.step m .refl)⟩
  .show i < j.toNat;simpa [rngO] using hi
  .show j.toNat<=_;simp[rngO]
  .obtain ⟨rfl,rfl⟩:=y;have hi':i < j.toNat:=by simpa [rngO] using hi
   exact ⟨.refl,⇑(0+i),by simp[rngO,hi'],⇑_⟩
def zbw (T:TF) (S:SF):Nat->Rho->Rt
 | 0,_=>.bad
 | n+1,ρ=>match T ρ with
  | .bad=>.bad
  | .ex c ρ'=>.ex c ρ'
  | .ok false ρ1 _=>.nx ρ1
  | .ok true ρ1 _=>match S ρ1 with
   | .nx ρ2=>zbw T S n ρ2
   | .ct ρ2=>zbw T S n ρ2
   | .br ρ2=>.nx ρ2
   | r=>r
theorem zf4 {T:TF} {S:SF}:∀(n:Nat) (ρ:Rho),zbw T S n ρ≠.bad->zbw T S (n+1) ρ=zbw T S n ρ
 | 0,ρ,h=>absurd rfl h
 | n+1,ρ,h=>by
  rw[zbw];rw[zbw] at h ⊢
  cases a:T ρ with
  | bad=>rfl
  | ex c ρ'=>rfl
  | ok b ρ1 q=>
   rw[a] at h
   cases b with
   | false=>rfl
   | true=>
    dsimp only at h ⊢
    cases e:S ρ1 with
    | nx ρ2=>rw[e] at h;exact zf4 n ρ2 h
    | ct ρ2=>rw[e] at h;exact zf4 n ρ2 h
    | _=>rfl
theorem zfV {T:TF} {S:SF} {n:Nat} {ρ:Rho} (h:zbw T S n ρ≠.bad):∀k,zbw T S (n+k) ρ=zbw T S n ρ
 | 0=>rfl
 | k+1=>by
  have:=zfV h k
  rw[<-Nat.add_assoc,zf4 (n+k) ρ (by rw[this];exact h),this]
open Classical in
def zdz (T:TF) (S:SF):SF:=fun ρ=>if h:∃n,zbw T S n ρ≠.bad then zbw T S h.choose ρ else .bad
theorem zf9 {T:TF} {S:SF} {n:Nat} {ρ:Rho} {r:Rt} (h:zbw T S n ρ=r) (hr:r≠.bad):zdz T S ρ=r:=by
 have hn:zbw T S n ρ≠.bad:=by rw[h];exact hr
 have ex:∃n,zbw T S n ρ≠.bad:=⟨n,hn⟩;unfold zdz;rw[dif_pos ex];have hc:=ex.choose_spec;have e1:=zfV hn ex.choose;have e2:=zfV hc n;rw[Nat.add_comm] at e2;rw[<-e2,e1,h]
theorem zlu {T:TF} {S:SF} {ρ:Rho} (h:zdz T S ρ≠.bad):∃n,zbw T S n ρ=zdz T S ρ:=by
 unfold zdz at h ⊢
 by_cases ex:∃n,zbw T S n ρ≠.bad
 .rw[dif_pos ex];exact ⟨_,rfl⟩
 .rw[dif_neg ex] at h;exact absurd rfl h
theorem zjf {c:Expr} {body:List Stmt} {T:TF} {S:SF} {pos:Pos} (hp:PassesOwn (model X.prog X.w) X.A X.env X.xe) (hc:VT X E c T) (hb:VSs X E L body S):VS X E L (.While c body [] pos) (zdz T S):=(zmM hp hc hb).imp fun D σ H h=>by
 obtain ⟨W,ρ,f,ok,q⟩:=h.aft;have nb:zdz T S ρ≠.bad:=fun z=>by rw[z] at q;exact q
 obtain ⟨n,hn⟩:=zlu nb;refine ⟨fun m σ' H'=>∃W' ρ' f',Sl X.mg X.K H' W' σ' ρ' f'/\Mv (Inn f) H W (Inn f') H' W'/\Held L σ σ'/\zbw T S m ρ'=zdz T S ρ,⟨n,W,ρ,f,ok.s,.refl ok.sub ok.dom,.refl,hn⟩, ?_⟩
 rintro m σ' H' ⟨W',ρ',f',s',m',l',e⟩
 cases m with
 | zero=>exact absurd e.symm nb
 | succ m=>
  rw[zbw] at e;refine ⟨W',ρ',f',.next s' m' fun _ z=>z, ?_⟩
  cases a:T ρ' with
  | bad=>rw[a] at e;exact absurd e.symm nb
  | ex c ρ1=>
   rw[a] at e;rw[<-e] at q;exact fun H1 W1 f1 s1 m1=>q σ' H1 W1 f1 s1 (m'.trans m1) l'
  | ok b ρ1 k=>
   rw[a] at e;intro H1 W1 f1 s1 m1 _
   cases b with
   | false=>
    rw[<-e] at q;exact q σ' H1 W1 f1 s1 (m'.trans m1) l'
   | true=>
    dsimp only at e;refine ⟨_,fun σ2 H2 h2=>⟨m,Nat.lt_succ_self m,h2⟩,tS.mk (.next s1 m1 fun _ z=>z) ?_⟩
    cases b2:S ρ1 with
    | bad=>rw[b2] at e;exact absurd e.symm nb
    | nx ρ2=>rw[b2] at e;exact fun σ2 H2 W2 f2 s2 m2 l2=>⟨W2,ρ2,f2,s2,(m'.trans m1).trans m2,l'.trans l2,e⟩
    | ct ρ2=>rw[b2] at e;exact fun σ2 H2 W2 f2 s2 m2 l2=>⟨W2,ρ2,f2,s2,(m'.trans m1).trans m2,l'.trans l2,e⟩
    | br ρ2=>rw[b2] at e;rw[<-e] at q;exact fun σ2 H2 W2 f2 s2 m2 l2=>q σ2 H2 W2 f2 s2 ((m'.trans m1).trans m2) (l'.trans l2)
    | rt o ρ2=>rw[b2] at e;rw[<-e] at q;exact fun v σ2 H2 W2 f2 B s2 o nd ap m2 l2=>q v σ2 H2 W2 f2 B s2 o nd ap ((m'.trans m1).trans m2) (l'.trans l2)
    | ex c ρ2=>rw[b2] at e;rw[<-e] at q;exact fun σ2 H2 W2 f2 s2 m2 l2=>q σ2 H2 W2 f2 s2 ((m'.trans m1).trans m2) (l'.trans l2)
end
def clrR:List (Option Nat)->Rho->Rho
 | [],ρ=>ρ
 | none::js,ρ=>clrR js ρ
 | some i::js,ρ=>clrR js (ρ.set i .z)
def zdi (js:List (Option Nat)) (ρ:Rho):Rho:=js.map fun j=>match j with
 | none=>.z
 | some i=>(ρ[i]?).getD .z
def zcy:List (Option Nat)->Rho->Rho->Rho
 | none::js,_::r,ρ=>zcy js r ρ
 | some i::js,o::r,ρ=>zcy js r (ρ.set i o)
 | _,_,ρ=>ρ
def caps (js:List (Option Nat)):List Nat:=js.filterMap id
section
variable {mg:Str->Option Value} {K:PySem.W.Frag} {H:Hp} {W:Addr->Prop} {σ:St} {ρ:Rho} {f:Fp}
theorem zk4:∀{js:List (Option Nat)} {ρ:Rho} {f:Fp},Sl mg K H W σ ρ f->∃f',Sl mg K H W σ (clrR js ρ) f'/\(∀i,f' i=if i∈caps js then [] else f i)
 | [],ρ,f,s=>⟨f,s,fun i=>by simp[caps]⟩
 | none::js,ρ,f,s=>by
  obtain ⟨f',h1,h2⟩:=zk4 (js:=js) s;exact ⟨f',h1,fun i=>by rw[h2];simp[caps]⟩
 | some j::js,ρ,f,s=>by
  obtain ⟨f',h1,h2⟩:=zk4 (js:=js) (s.setZ (i:=j));refine ⟨f',h1,fun i=>?_⟩;rw[h2]
  by_cases e:i=j
  .subst e
   by_cases q:i∈caps js
   .rw[if_pos q,if_pos (by simp[caps])]
   .rw[if_neg q,zbr,if_pos (by simp[caps])]
  .rw[zbI e]
   have:i∈caps (some j::js)↔i∈caps js:=by simp[caps,e]
   by_cases q:i∈caps js
   .rw[if_pos q,if_pos (this.mpr q)]
   .rw[if_neg q,if_neg fun z=>q (this.mp z)]
def zdQ (js:List (Option Nat)) (f:Fp):Fp:=fun k=>match js[k]? with
 | some (some i)=>f i
 | _=>[]
theorem zha {js:List (Option Nat)} {k i:Nat} (h:js[k]? = some (some i)):i∈caps js:=List.mem_filterMap.mpr ⟨some i,List.mem_of_getElem? h,rfl⟩
theorem zhl:∀{js:List (Option Nat)} {k l i:Nat},(caps js).Nodup->js[k]? = some (some i)->js[l]? = some (some i)->k=l
 | [],k,l,i,_,h,_=>by simp at h
 | none::js,k,l,i,nd,h,h'=>by
  cases k with
  | zero=>cases h
  | succ k=>
   cases l with
   | zero=>cases h'
   | succ l=>rw[zhl (js:=js) (k:=k) (l:=l) (i:=i) (by simpa [caps] using nd) h h']
 | some j::js,k,l,i,nd,h,h'=>by
  have nd':j∉caps js/\(caps js).Nodup:=by
   have:caps (some j::js)=j::caps js:=by simp[caps]
   rw[this] at nd;exact List.nodup_cons.mp nd
  cases k with
  | zero=>
   cases l with
   | zero=>rfl
   | succ l=>cases h;exact absurd (zha (js:=js) (k:=l) h') nd'.1
  | succ k=>
   cases l with
   | zero=>cases h';exact absurd (zha (js:=js) (k:=k) h) nd'.1
   | succ l=>rw[zhl (js:=js) (k:=k) (l:=l) (i:=i) nd'.2 h h']
theorem zpw {js:List (Option Nat)} (nd:(caps js).Nodup) (s:Sl mg K H W σ ρ f):Sl mg K H W (pick σ js) (zdi js ρ) (zdQ js f):=by
 refine ⟨fun k o e=>?_,fun k hk=>?_,by unfold pick zdi;simp,⟨fun k=>?_,fun k l hkl x hx hy=>?_⟩⟩
 .unfold zdi at e;rw[List.getElem?_map] at e;unfold zdQ pick;rw[List.getElem?_map]
  cases q:js[k]? with
  | none=>rw[q] at e;cases e
  | some j=>
   rw[q] at e
   cases j with
   | none=>cases e;exact .inl ⟨rfl,rfl⟩
   | some i=>
    dsimp only[Option.map] at e ⊢
    cases r:ρ[i]? with
    | none=>
     rw[r] at e;cases e;exact .inl ⟨rfl,s.no i (List.getElem?_eq_none_iff.mp r)⟩
    | some u=>
     rw[r] at e;cases e;rcases s.sl i u r with ⟨h1,h2⟩ | ⟨v,h1,h2⟩
     .exact .inl ⟨h1,h2⟩
     .exact .inr ⟨v,by rw[h1];rfl,h2⟩
 .unfold zdQ;rw[List.getElem?_eq_none (by unfold zdi at hk;simpa using hk)]
 .unfold zdQ;split
  .exact s.fam.nd _
  .exact List.nodup_nil
 .unfold zdQ at hx hy;split at hx
  .rename_i i hi;split at hy
   .rename_i j hj
    by_cases e:i=j
    .subst e;exact hkl (zhl nd hi hj)
    .exact s.fam.ap i j e x hx hy
   .cases hy
  .cases hx
theorem ziK:∀{js:List (Option Nat)} {r:Rho} {σ2:St} {g:Fp} {ρ:Rho} {f:Fp},(∀(k:Nat) (o:O),r[k]? = some o->(o=.z/\g k=[])\/∃v,σ2[k]? = some (some v)/\Ow mg K H W v o (g k))->Fam g->
  (∀(k i:Nat),js[k]? = some (some i)->σ2[k]? = some ((σ[i]?).getD none))->(caps js).Nodup->Sl mg K H W σ ρ f->(∀i∈caps js,f i=[])->(∀k i x,x∈g k->x∉f i)->
  ∃f',Sl mg K H W σ (zcy js r ρ) f'/\∀x,Inn f' x->Inn f x\/Inn g x
 | [],r,σ2,g,ρ,f,_,_,_,_,s,_,_=>by rw[zcy];exact ⟨f,s,fun x h=>.inl h⟩;all_goals simp
 | none::js,[],σ2,g,ρ,f,_,_,_,_,s,_,_=>by rw[zcy];exact ⟨f,s,fun x h=>.inl h⟩;all_goals simp
 | some j::js,[],σ2,g,ρ,f,_,_,_,_,s,_,_=>by rw[zcy];exact ⟨f,s,fun x h=>.inl h⟩;all_goals simp
 | none::js,o::r,σ2,g,ρ,f,h,fg,hσ,nd,s,hf,hd=>by
  rw[zcy];obtain ⟨f',a,b⟩:=ziK (js:=js) (r:=r) (σ2:=σ2.tail) (g:=fun k=>g (k+1)) (ρ:=ρ) (f:=f) (fun k o e=>by
    have:=h (k+1) o e
    simpa [List.getElem?_tail] using this) ⟨fun i=>fg.nd _,fun i l hil=>fg.ap _ _ ∅⟩ (fun k i e=>by
    have:=hσ (k+1) i e
    simpa [List.getElem?_tail] using this) (by simpa [caps] using nd) s (fun i hi=>hf i (by simpa [caps] using hi)) (fun k i x hx=>hd (k+1) i x hx)
  exact ⟨f',a,fun x hx=>(b x hx).imp id fun ⟨k,hk⟩=>⟨k+1,hk⟩⟩
 | some j::js,o::r,σ2,g,ρ,f,h,fg,hσ,nd,s,hf,hd=>by
  rw[zcy];have nd':j∉caps js/\(caps js).Nodup:=by
   have:caps (some j::js)=j::caps js:=by simp[caps]
   rw[this] at nd;exact List.nodup_cons.mp nd
  have s2:Sl mg K H W σ (ρ.set j o) (fset f j (g 0)):=by
   rcases h 0 o rfl with ⟨rfl,e⟩ | ⟨v,h1,h2⟩
   .rw[e];exact s.setZ
   .have e:=hσ 0 j rfl;rw[h1] at e;have e':σ[j]? = some (some v):=by
     cases q:σ[j]? with
     | none=>rw[q] at e;cases e
     | some u=>rw[q] at e;cases e;rfl
    exact s.setS e' h2 (fg.nd 0) fun x hx i _=>hd 0 i x hx
  obtain ⟨f',a,b⟩:=ziK (js:=js) (r:=r) (σ2:=σ2.tail) (g:=fun k=>g (k+1)) (ρ:=ρ.set j o) (f:=fset f j (g 0)) (fun k o e=>by
    have:=h (k+1) o e
    simpa [List.getElem?_tail] using this) ⟨fun i=>fg.nd _,fun i l hil=>fg.ap _ _ ∅⟩ (fun k i e=>by
    have:=hσ (k+1) i e
    simpa [List.getElem?_tail] using this) nd'.2 s2 (fun i hi=>by
    rw[zbI (show i≠j from fun z=>nd'.1 (z ▸ hi))];exact hf i (by rw[show caps (some j::js)=j::caps js by simp[caps]];exact List.mem_cons_of_mem _ hi)) (fun k i x hx=>by
    by_cases e:i=j
    .subst e;rw[zbr];exact fun z=>fg.ap (k+1) 0 ∅ x hx z
    .rw[zbI e];exact hd (k+1) i x hx)
  exact ⟨f',a,fun x hx=>(b x hx).elim (fun z=>z.set.imp id fun y=>⟨0,y⟩) fun ⟨k,hk⟩=>.inr ⟨k+1,hk⟩⟩
end
def lcF (js:List (Option Nat)) (G:GF) (T:TF) (A:EF):List O->Rho->List O->Bool->Re (List O)
 | [],ρ,acc,q=>.ok acc ρ q
 | x::xs,ρ,acc,q=>match G x (zdi js ρ) with
  | none=>.bad
  | some ρ1=>match T ρ1 with
   | .ok b ρ2 q2=>if b then match A ρ2 with
     | .ok r ρ3 q3=>match coe ρ3 r with
      | some (o,ρ4)=>lcF js G T A xs (zcy js ρ4 (clrR js ρ)) (acc++[o]) (q&&q2&&q3)
      | none=>.bad
     | _=>.bad
    else lcF js G T A xs (zcy js ρ2 (clrR js ρ)) acc (q&&q2)
   | _=>.bad
section
variable {mg:Str->Option Value} {K:PySem.W.Frag}
def E0':XK:=fun _ _ _=>False
theorem zoQ {js:List (Option Nat)} {H H':Hp} {W W':Addr->Prop} {σ σ2:St} {ρ ρ':Rho} {f f2:Fp} {B:List Addr} (nd:(caps js).Nodup) (ok:Ok mg K H W σ ρ f) (s2:Sl mg K H' W' σ2 ρ' f2) (ap:∀x∈B,¬Inn f2 x)
  (m:Mv (Inn (zdQ js f)) H W (fun x=>Inn f2 x\/x∈B) H' W') (hσ:∀(k i:Nat),js[k]? = some (some i)->σ2[k]? = (pick σ js)[k]?) :
  ∃f',Sl mg K H' W' σ (zcy js ρ' (clrR js ρ)) f'/\(∀x∈B,¬Inn f' x)/\Mv (Inn f) H W (fun x=>Inn f' x\/x∈B) H' W'/\(∀x,Inn f x->¬Inn (zdQ js f) x->H' x=H x):=by
 obtain ⟨f0,s0,e0⟩:=zk4 (js:=js) ok.s;have sub0:∀x,Inn f0 x->Inn f x:=fun x hx__=>by
  obtain ⟨i,hi⟩:=hx__;rw[e0] at hi
  by_cases q:i∈caps js
  .rw[if_pos q] at hi;cases hi
  .rw[if_neg q] at hi;exact ⟨i,hi⟩
 have out0:∀x,Inn f0 x->¬Inn (zdQ js f) x:=fun x ⟨i,hi⟩ ⟨k,hk⟩=>by
  rw[e0] at hi
  by_cases q:i∈caps js
  .rw[if_pos q] at hi;cases hi
  .rw[if_neg q] at hi;unfold zdQ at hk;split at hk
   .rename_i j hj;exact ok.s.fam.ap i j (fun z=>q (z ▸ zha hj)) x hi hk
   .cases hk
 have keep:∀x,Inn f0 x->W' x/\H' x=H x:=fun x hx=>m.hand (ok.sub x (sub0 x hx)) (out0 x hx)
 have away:∀x,Inn f0 x->¬(Inn f2 x\/x∈B):=fun x hx=>m.apart (ok.sub x (sub0 x hx)) (out0 x hx)
 have s1:Sl mg K H' W' σ (clrR js ρ) f0:=s0.on m.d fun x hx=>(keep x hx).2
 have pickget:∀(k i:Nat),js[k]? = some (some i)->(pick σ js)[k]? = some ((σ[i]?).getD none):=fun k i e=>by
  unfold pick;rw[List.getElem?_map,e];rfl
 obtain ⟨f',b1,b2⟩:=ziK (js:=js) (r:=ρ') (σ2:=σ2) (g:=f2) s2.sl s2.fam (fun k i e=>(hσ k i e).trans (pickget k i e)) nd s1 (fun i hi=>by rw[e0,if_pos hi]) (fun k i x hx z=>away x ⟨i,z⟩ (.inl ⟨k,hx⟩));have pin:∀x,Inn (zdQ js f) x->Inn f x:=fun x hx__=>by
  obtain ⟨k,hk⟩:=hx__;unfold zdQ at hk;split at hk
  .exact ⟨_,hk⟩
  .cases hk
 refine ⟨f',b1,fun x hx z=>?_,⟨fun b o e n=>m.same b o e fun z=>n (pin b z),m.less,fun x w=>(m.more x w).imp (pin x) id,fun x w=>?_,ok.sub,ok.dom,fun x w=>?_,m.dom'⟩,fun x hx hn=>?_⟩
 .rcases b2 x z with z | z
  .exact away x z (.inr hx)
  .exact ap x hx z
 .rcases w with w | w
  .rcases b2 x w with z | z
   .exact .inl (sub0 x z)
   .exact (m.ours x (.inl z)).imp (pin x) id
  .exact (m.ours x (.inr w)).imp (pin x) id
 .rcases w with w | w
  .rcases b2 x w with z | z
   .exact (keep x z).1
   .exact m.sub' x (.inl z)
  .exact m.sub' x (.inr w)
 .obtain ⟨i,hi⟩:=hx;have hc:i∉caps js:=fun z=>hn (by
   obtain ⟨j,hj,e⟩:=List.mem_filterMap.mp z;cases e;obtain ⟨k,hk,hk'⟩:=List.getElem_of_mem hj;exact ⟨k,by unfold zdQ;rw[List.getElem?_eq_getElem hk,hk'];exact hi⟩)
  have h0:Inn f0 x:=⟨i,by rw[e0,if_neg hc];exact hi⟩;exact (keep x h0).2
theorem ziJ {J:It} {js:List (Option Nat)} {items:List O} {L:List Nat} {G:GF} {T:TF} {A:EF} {σ:St} {H1:Hp} {W1:Addr->Prop} {ρ1:Rho} {f1:Fp} {Q:VK} {os:List O} {ρ':Rho} {q:Bool} (ok:Ok mg K H1 W1 σ ρ1 f1) (nd:(caps js).Nodup) (hL:∀(k i:Nat),js[k]? = some (some i)->k∈L)
  (hz:items.length<=sizeLine)
  (go:∀i H W',(∃A',Mv (Inn f1) H1 W1 A' H W')->i < items.length->J.go i H) (stop:∀H W',(∃A',Mv (Inn f1) H1 W1 A' H W')->J.stop items.length H)
  (yl:∀i H W' x H',(∃A',Mv (Inn f1) H1 W1 A' H W')->(∀x,W' x->H x≠none)->i < items.length->J.yld i H x H'->Gr H W' [] H' W'/\∃o,items[i]? = some o/\Ow mg K H' W' x o [])
  (e:lcF js G T A items ρ1 [] true=.ok os ρ' q)
  (fin:∀l acc H' W' f' As,H' l=none->Sl mg K H' W' σ ρ' f'->Ows mg K H' W' acc os As->As.Nodup->(∀x∈As,¬Inn f' x)->Mv (Inn f1) H1 W1 (fun x=>Inn f' x\/x∈As) H' W'->(q=true->∀x,Inn f1 x->H' x=H1 x)->Q (.ref l) (upd H' l (.lst acc))) :
  lcGo J js (tTg mg K L G) (tT mg K E0' T) (tR mg K E0' A) σ H1 Q:=by
 let Pv:Nat->List V->Hp->Prop:=fun i acc H'=>∃W' ρi f' As us qi,Sl mg K H' W' σ ρi f'/\Ows mg K H' W' acc us As/\As.Nodup/\(∀x∈As,¬Inn f' x)/\Mv (Inn f1) H1 W1 (fun x=>Inn f' x\/x∈As) H' W'/\(qi=true->∀x,Inn f1 x->H' x=H1 x)/\us.length<=i/\lcF js G T A (items.drop i) ρi us qi=.ok os ρ' q
 refine ⟨fun i m acc H'=>m=items.length - i/\i<=items.length/\Pv i acc H',⟨items.length,by simp,Nat.zero_le _,W1,ρ1,f1,[],[],true,ok.s,.nil,List.nodup_nil,fun x z=>(nomatch z),ok.refl,fun _ _ _=>rfl,Nat.le_refl _,e⟩, ?_⟩
 rintro i m acc H' ⟨rfl,hi,W',ρi,f',As,us,qi,s',o',ndA,apA,m',k',hlen,e'⟩
 have hacc:acc.length=us.length:=o'.length
 by_cases hlt:i < items.length
 .refine .inr ⟨go i H' W' ⟨_,m'⟩ hlt,by omega,fun x H2 y=>?_⟩;obtain ⟨g,ox,eo,ow⟩:=yl i H' W' x H2 ⟨_,m'⟩ m'.dom' hlt y;have ed:items.drop i=ox::items.drop (i+1):=by
   rw[List.drop_eq_getElem_cons hlt];rw[List.getElem?_eq_getElem hlt] at eo;cases eo;rfl
  rw[ed,lcF] at e';have ok':Ok mg K H' W' σ ρi f':=⟨s',fun x hx=>m'.sub' x (.inl hx),m'.dom'⟩
  cases e1:G ox (zdi js ρi) with
  | none=>rw[e1] at e';cases e'
  | some ρ2=>
   rw[e1] at e';dsimp only at e';have s2:Sl mg K H2 W' σ ρi f':=s'.on g.d fun x hx=>g.kept m'.dom' (m'.sub' x (.inl hx))
   have ok2:Ok mg K H2 W' σ ρi f':=⟨s2,ok'.sub,fun x hx=>by rw[g.kept m'.dom' hx];exact m'.dom' x hx⟩;have p2:=zpw (js:=js) nd s2;have pin:∀x,Inn (zdQ js f') x->Inn f' x:=fun x hx__=>by
    obtain ⟨k,hk⟩:=hx__;unfold zdQ at hk;split at hk
    .exact ⟨_,hk⟩
    .cases hk
   refine ⟨W',zdi js ρi,zdQ js f',ox,[],ρ2,p2,ow,List.nodup_nil,fun x z=>(nomatch z),fun x hx=>ok2.sub x (pin x (hx.resolve_right fun z=>nomatch z)),ok2.dom,e1,fun σ3 f3 s3 i3 l3=>?_⟩;have i3':∀x,Inn f3 x->Inn (zdQ js f') x:=fun x hx=>(i3 x hx).resolve_right fun z=>nomatch z
   have m3:Mv (Inn (zdQ js f')) H2 W' (Inn f3) H2 W':=(Mv.refl (fun x hx=>ok2.sub x (pin x hx)) ok2.dom).narrow i3';have ok3:Ok mg K H2 W' σ3 ρ2 f3:=.next s3 m3 fun _ z=>z
   have held3:∀(k i:Nat),js[k]? = some (some i)->σ3[k]? = (pick σ js)[k]? := fun k i hk=>l3.2 k (hL k i hk)
   -- what was there ahead of the turn
   have back:∀{H4:Hp} {W4:Addr->Prop} {ρ4:Rho} {f4:Fp} {B:List Addr} {qq:Bool},Sl mg K H4 W4 σ3 ρ4 f4->(∀x∈B,¬Inn f4 x)->Mv (Inn f3) H2 W' (fun x=>Inn f4 x\/x∈B) H4 W4->(qq=true->∀x,Inn f3 x->H4 x=H2 x)->
     ∃f5,Sl mg K H4 W4 σ (zcy js ρ4 (clrR js ρi)) f5/\(∀x∈B,¬Inn f5 x)/\(∀x∈As,¬Inn f5 x/\x∉B)/\Ows mg K H4 W4 acc us As/\Mv (Inn f1) H1 W1 (fun x=>Inn f5 x\/x∈As\/x∈B) H4 W4/\((qi&&qq)=true->∀x,Inn f1 x->H4 x=H1 x):=fun {H4 W4 ρ4 f4 B qq} s4 ap4 m4 k4=>by
    have m4':Mv (Inn (zdQ js f')) H2 W' (fun x=>Inn f4 x\/x∈B) H4 W4:=m3.trans m4;obtain ⟨f5,b1,b2,b3,b4⟩:=zoQ nd ok2 s4 ap4 m4' held3;have hAs:∀x∈As,W' x/\¬Inn f' x:=fun x hx=>⟨m'.sub' x (.inr hx),apA x hx⟩
    have keepA:∀x∈As,W4 x/\H4 x=H2 x:=fun x hx=>b3.hand (hAs x hx).1 (hAs x hx).2
    have awayA:∀x∈As,¬(Inn f5 x\/x∈B):=fun x hx=>b3.apart (hAs x hx).1 (hAs x hx).2
    have o2:Ows mg K H2 W' acc us As:=o'.on g.d fun x hx=>g.kept m'.dom' (hAs x hx).1
    refine ⟨f5,b1,b2,fun x hx=>⟨fun z=>awayA x hx (.inl z),fun z=>awayA x hx (.inr z)⟩,o2.on b3.d fun x hx=>(keepA x hx).2, ?_,fun hq x hx=>?_⟩
    .have gm:Mv (fun x=>Inn f' x\/x∈As) H' W' (fun x=>Inn f' x\/x∈As) H2 W':=(g.mv m'.sub' m'.dom').narrow fun x hx=>.inl hx
     refine (m'.trans gm).trans ⟨fun b o e n=>b3.same b o e fun z=>n (.inl z),b3.less,fun x w=>(b3.more x w).imp .inl id,fun x w=>?_,gm.sub',b3.dom,fun x w=>?_,b3.dom'⟩
     .rcases w with w | w | w
      .exact (b3.ours x (.inl w)).imp .inl id
      .exact .inl (.inr w)
      .exact (b3.ours x (.inr w)).imp .inl id
     .rcases w with w | w | w
      .exact b3.sub' x (.inl w)
      .exact (keepA x w).1
      .exact b3.sub' x (.inr w)
    .rw[Bool.and_eq_true] at hq;have h1:=k' hq.1 x hx
     cases ex:H1 x with
     | none=>exact absurd ex (ok.dom x (ok.sub x hx))
     | some u=>
      rw[ex] at h1;have h2:H2 x=some u:=g.same x u h1
      by_cases c:Inn f' x
      .by_cases c2:Inn (zdQ js f') x
       .by_cases c3:Inn f3 x
        .rw[k4 hq.2 x c3];exact h2
        .exact m4.same x u h2 c3
       .rw[b4 x c c2];exact h2
      .exact b3.same x u h2 c
   refine ⟨W',ρ2,f3,ok3, ?_⟩
   cases e2:T ρ2 with
   | bad=>rw[e2] at e';cases e'
   | ex c ρ3=>rw[e2] at e';cases e'
   | ok b ρ3 q2=>
    rw[e2] at e';dsimp only at e';intro H4 W4 f4 s4 m4 k4
    cases b with
    | false=>
     rw[if_neg Bool.false_ne_true] at e' ⊢;obtain ⟨f5,b1,_,b3,b4,b5,b6⟩:=back (B:=[]) s4 (fun x z=>nomatch z) (m4.narrow fun x hx=>hx.resolve_right fun z=>nomatch z) k4;exact ⟨items.length - (i+1),by omega,rfl,hlt,W4,_,f5,As,us,_,b1,b4,ndA,fun x hx=>(b3 x hx).1,b5.narrow fun x hx=>hx.imp id .inl,b6,by omega,e'⟩
    | true=>
     rw[if_pos rfl] at e' ⊢;refine ⟨W4,ρ3,f4,.next s4 m4 fun _ z=>z, ?_⟩
     cases e3:A ρ3 with
     | bad=>rw[e3] at e';cases e'
     | ex c ρ4=>rw[e3] at e';cases e'
     | ok r ρ4 q3=>
      rw[e3] at e';dsimp only at e';intro v H5 W5 f5 B s5 r5 n5 m5 k5
      cases e4:coe ρ4 r with
      | none=>rw[e4] at e';cases e'
      | some z=>
       obtain ⟨o,ρ5⟩:=z;rw[e4] at e';dsimp only at e';obtain ⟨W6,f6,s6,g6,B',ow6,nd6,in6⟩:=zgu s5 (fun x hx=>m5.sub' x (.inl hx)) r5 e4;have hB':∀x∈B',W6 x/\¬Inn f6 x:=fun x hx=>⟨(g6.more x (m5.sub' x (.inr (in6 x hx)))).resolve_left (n5 x (in6 x hx)),fun z=>n5 x (in6 x hx) (g6.ours x z)⟩
       have m6:Mv (Inn f3) H2 W' (fun x=>Inn f6 x\/x∈B') H5 W6:=(m4.trans m5).trans (g6.mv (fun x hx=>.inl hx) m5.sub' m5.dom' fun x hx=>⟨.inr (in6 x hx),(hB' x hx).1⟩);obtain ⟨f7,b1,b2,b3,b4,b5,b6⟩:=back (B:=B') s6 (fun x hx=>(hB' x hx).2) m6 (zgS ok3 k4 m5 k5);refine ⟨items.length - (i+1),by omega,rfl,hlt,W6,_,f7,As++(B'++[]),us++[o],_,b1,Ows.app b4 (.cons ow6 .nil), ?_,fun x hx=>?_,b5.narrow fun x hx=>?_,by rw[<-Bool.and_assoc] at b6;exact b6,by simp;omega,e'⟩
       .rw[List.append_nil];exact List.nodup_append.mpr ⟨ndA,nd6,fun x hx y hy z=>(b3 x hx).2 (z ▸ hy)⟩
       .rw[List.append_nil] at hx;exact (List.mem_append.mp hx).elim (fun z=>(b3 x z).1) (b2 x)
       .rw[List.append_nil] at hx;exact hx.imp id fun z=>List.mem_append.mp z
 .have e2:i=items.length:=by omega
  subst e2;rw[List.drop_length,lcF] at e'
  cases e'
  exact .inl ⟨stop H' W' ⟨_,m'⟩,by omega,fun l hl=>fin l acc H' W' f' As hl s' o' ndA apA m' k'⟩
end
def capL (js:List (Option Nat)):List Nat:=(List.range js.length).filter fun k=>match js[k]? with | some (some _)=>true | _=>false
theorem zfM {js:List (Option Nat)} {k i:Nat} (h:js[k]? = some (some i)):k∈capL js:=by
 unfold capL;rw[List.mem_filter,List.mem_range];exact ⟨(List.getElem?_eq_some_iff.mp h).1,by rw[h]⟩
def eLC (I:Rho->Re (List O)) (js:List (Option Nat)) (G:GF) (T:TF) (A:EF):EF:=fun ρ=>match I ρ with
 | .bad=>.bad
 | .ex c ρ'=>.ex c ρ'
 | .ok items ρ1 q1=>if items.length<=sizeLine then match lcF js G T A items ρ1 [] true with
   | .ok os ρ2 q2=>.ok (.own (.l os)) ρ2 (q1&&q2)
   | _=>.bad
  else .bad
section
variable {mg:Str->Option Value} {K:PySem.W.Frag} {E:XK}
theorem znJ {σ:St} {H:Hp} {W:Addr->Prop} {ρ ρ2:Rho} {f f1:Fp} {Q:VK} {os:List O} {H1:Hp} {W1:Addr->Prop} {q1 q2:Bool} (ok:Ok mg K H W σ ρ f) (m1:Mv (Inn f) H W (Inn f1) H1 W1) (k1:q1=true->∀x,Inn f x->H1 x=H x)
  (q:∀v H' W' f' B,Sl mg K H' W' σ ρ2 f'->RvOk mg K H' W' σ v (.own (.l os)) B->(∀x∈B,¬Inn f' x)->Mv (Inn f) H W (fun x=>Inn f' x\/x∈B) H' W'->((q1&&q2)=true->∀x,Inn f x->H' x=H x)->Q v H') :
  ∀l acc H' W' f' As,H' l=none->Sl mg K H' W' σ ρ2 f'->Ows mg K H' W' acc os As->As.Nodup->(∀x∈As,¬Inn f' x)->Mv (Inn f1) H1 W1 (fun x=>Inn f' x\/x∈As) H' W'->(q2=true->∀x,Inn f1 x->H' x=H1 x)->Q (.ref l) (upd H' l (.lst acc)):=fun l acc H' W' f' As hl s o nd ap m k=>by
 have g:Gr H' W' [l] (upd H' l (.lst acc)) (fun x=>W' x\/x∈[l]):=Gr.newO hl;have m':=m1.trans m;have hlA:l∉As:=fun z=>m.dom' l (m.sub' l (.inr z)) hl
 refine q (.ref l) _ _ f' (l::As) (s.on g.d fun x hx=>g.kept m.dom' (m.sub' x (.inl hx))) ⟨.l zbx (o.on g.d fun x hx=>g.kept m.dom' (m.sub' x (.inr hx))),List.nodup_cons.mpr ⟨hlA,nd⟩⟩ (fun x hx z=>?_) ((m'.trans (g.mv m.sub' m.dom')).narrow fun x hx=>?_) fun hq=>g.quiet ok (zgS ok k1 m k hq)
 .rcases List.mem_cons.mp hx with rfl | hx
  .exact m.dom' x (m.sub' x (.inl z)) hl
  .exact ap x hx z
 .rcases hx with hx | hx
  .exact .inl (.inl hx)
  .rcases List.mem_cons.mp hx with rfl | hx
   .exact .inr List.mem_cons_self
   .exact .inl (.inr hx)
theorem zhY {js:List (Option Nat)} {G:GF}:GK js (tTg mg K (capL js) G):=fun v σ H Q h=>by
 obtain ⟨W,ρ,f,o,B,ρ',sl,ow,nd,ap,sb,dm,e,q⟩:=h;exact ⟨W,ρ,f,o,B,ρ',sl,ow,nd,ap,sb,dm,e,fun σ' f' s i l=>⟨q σ' f' s i l,fun k j hk=>l.2 k (zfM hk)⟩⟩
theorem zrh {A0 A:EF} {js:List (Option Nat)} {G:GF} {T:TF} {σ:St} {H:Hp} {Q:VK} (nd:(caps js).Nodup) (h:tR mg K E (eLC (itR1 A0) js G T A) σ H Q):tLC (zr3 (zkb (tR mg K E A0) tNil)) js (tTg mg K (capL js) G) (tT mg K E0' T) (tR mg K E0' A) σ H Q:=by
 obtain ⟨W,ρ,f,ok,q⟩:=h;unfold eLC itR1 at q;refine tR.mono (zof zlX (Q:=fun j H1=>okR j=true/\∃W1 ρ1 f1 q1,Sl mg K H1 W1 σ ρ1 f1/\Mv (Inn f) H W (Inn f1) H1 W1/\(q1=true->∀x,Inn f x->H1 x=H x)/\kR mg K E σ H W f Q (if (rngO 0 j.toNat).length<=sizeLine then match lcF js G T A (rngO 0 j.toNat) ρ1 [] true with
   | .ok os ρ2 q2=>Re.ok (Rv.own (.l os)) ρ2 (q1&&q2)
   | _=>.bad
  else .bad)) ⟨W,ρ,f,ok, ?_⟩) fun v H1 hx1=>?_
 .cases c:eSc decI A0 ρ with
  | bad=>rw[c] at q;exact q
  | ex c ρ'=>rw[c] at q;exact q
  | ok j ρ1 q1=>
   rw[c] at q;dsimp only[Re.bind] at q;intro H1 W1 f1 s m k
   by_cases hr:okR j=true
   .rw[if_pos hr] at q;exact ⟨hr,W1,ρ1,f1,q1,s,m,k,q⟩
   .rw[if_neg hr] at q;exact False.elim q
 .obtain ⟨j,e,hr,W1,ρ1,f1,q1,s,m,k,q⟩:=hx1;have hr':=of_decide_eq_true hr
  by_cases hz:(rngO 0 j.toNat).length<=sizeLine
  .rw[if_pos hz] at q
   cases b:lcF js G T A (rngO 0 j.toNat) ρ1 [] true with
   | bad=>rw[b] at q;exact False.elim q
   | ex c ρ'=>rw[b] at q;exact False.elim q
   | ok os ρ2 q2=>
    rw[b] at q;refine ⟨j,by rw[e],hr'.1,hr'.2,ziJ (items:=rngO 0 j.toNat) (.next s m fun _ z=>z) nd (fun k i=>zfM) hz (fun i H2 W2 ⟨_,mm⟩ hi=>?_) (fun H2 W2 ⟨_,mm⟩=>?_) (fun i H2 W2 x H3 ⟨_,mm⟩ dd hi y=>?_) b (znJ ok m k q)⟩
    .show i < j.toNat;simpa [rngO] using hi
    .show j.toNat<=_;simp[rngO]
    .obtain ⟨rfl,rfl⟩:=y;have hi':i < j.toNat:=by simpa [rngO] using hi
     exact ⟨.refl,⇑(0+i),by simp[rngO,hi'],⇑_⟩
  .rw[if_neg hz] at q;exact False.elim q
theorem zcu {X:Cx}:PF X [] (tT X.mg X.K E0' (gRet true)):=fun pins s σ H Q I h=>zqx pins s σ H Q I (tG.ret (E:=E0') h)
end
def pass:List Bool->List Rv->Rho->Option (List O×List Nat×Rho)
 | [],[],ρ=>some ([],[],ρ)
 | false::ms,r::rs,ρ=>match coe ρ r with
  | some (o,ρ1)=>match pass ms rs ρ1 with
   | some (os,is,ρ2)=>some (o::os,is,ρ2)
   | none=>none
  | none=>none
 | true::ms,.at i []::rs,ρ=>match ρ[i]? with
  | some .z=>none
  | some o=>match pass ms rs (ρ.set i .z) with
   | some (os,is,ρ2)=>some (o::os,i::is,ρ2)
   | none=>none
  | none=>none
 | _,_,_=>none
def zfL:List Bool->List V->List V
 | true::ms,v::vs=>v::zfL ms vs
 | false::ms,_::vs=>zfL ms vs
 | _,_=>[]
def zcx:List Bool->Rho->List O
 | true::ms,o::ρ=>o::zcx ms ρ
 | false::ms,_::ρ=>zcx ms ρ
 | _,_=>[]
def ze7:List Bool->Fp->Fp
 | true::ms,g=>zhw (g 0) (ze7 ms fun k=>g (k+1))
 | false::ms,g=>ze7 ms fun k=>g (k+1)
 | [],_=>fun _=>[]
def zhk:Nat->List Bool->List Nat
 | k,true::ms=>k::zhk (k+1) ms
 | k,false::ms=>zhk (k+1) ms
 | _,[]=>[]
def zeA:List Nat->List O->Rho->Rho
 | i::is,o::os,ρ=>zeA is os (ρ.set i o)
 | _,_,ρ=>ρ
section
variable {mg:Str->Option Value} {K:PySem.W.Frag} {H:Hp} {σ:St}
theorem Hd.cons {W:Addr->Prop} {v:V} {vs:List V} {o:O} {os:List O} {B:List Addr} {g:Fp} (h:Ow mg K H W v o B) (nd:B.Nodup) (t:Hd mg K H W vs os g) (ap:∀x∈B,¬Inn g x):Hd mg K H W (v::vs) (o::os) (zhw B g):=
 ⟨fun i u e=>by
  cases i with
  | zero=>cases e;exact ⟨v,rfl,h⟩
  | succ i=>exact t.hd i u e,fun i hi=>by
  cases i with
  | zero=>simp at hi
  | succ i=>exact t.no i (by simpa using hi),by simp[t.len],.cons nd t.fam ap⟩
theorem Hd.nil {W:Addr->Prop}:Hd mg K H W [] [] fun _=>[]:=⟨fun i u e=>by simp at e,fun _ _=>rfl,rfl,⟨fun _=>List.nodup_nil,fun _ _ _ _ z=>nomatch z⟩⟩
structure zr6 (σ:St) (ρ:Rho) (is:List Nat) (vs:List V):Prop where
 nd:is.Nodup
 len:is.length=vs.length
 at_:∀(j i:Nat),is[j]? = some i->∃v,vs[j]? = some v/\σ[i]? = some (some v)/\ρ[i]? = some .z
theorem ztm {ρ ρ1:Rho} {r:Rv} {o:O} {i:Nat} (a:coe ρ r=some (o,ρ1)) (hi:ρ[i]? = some O.z):ρ1[i]? = some O.z:=by
 cases r with
 | own u=>cases a;exact hi
 | «at» j p=>
  rw[coe] at a
  cases c:ρ[j]? with
  | none=>rw[c] at a;cases a
  | some oi=>
   rw[c] at a;dsimp only at a
   by_cases hj:j=i
   .subst hj;rw[hi] at c;cases c
    cases p with
    | nil=>
     rw[show sub [] O.z=some O.z from rfl] at a;dsimp only at a;rw[show fz O.z=none from rfl] at a;cases a
    | cons k p=>cases a
   .have:ρ1=ρ\/∃y,ρ1=ρ.set j y:=by
     split at a
     .cases a;exact .inl rfl
     .cases a;exact .inl rfl
     .cases a;exact .inl rfl
     .cases a;exact .inl rfl
     .split at a
      .cases a;exact .inr ⟨_,rfl⟩
      .cases a
     .cases a
    rcases this with rfl | ⟨y,rfl⟩
    .exact hi
    .rw[List.getElem?_set_ne hj];exact hi
theorem zn4 {ms:List Bool} {rs:List Rv} {ρ ρ':Rho} {os:List O} {is:List Nat} (e:pass (false::ms) rs ρ=some (os,is,ρ')):∃r rt o ρ1 os',rs=r::rt/\coe ρ r=some (o,ρ1)/\pass ms rt ρ1=some (os',is,ρ')/\os=o::os':=by
 cases rs with
 | nil=>cases e
 | cons r rt=>
  rw[pass] at e
  cases a:coe ρ r with
  | none=>rw[a] at e;cases e
  | some z=>
   obtain ⟨o,ρ1⟩:=z;rw[a] at e;dsimp only at e
   cases b:pass ms rt ρ1 with
   | none=>rw[b] at e;cases e
   | some z=>
    obtain ⟨os',is',ρ2⟩:=z;rw[b] at e;cases e;exact ⟨r,rt,o,ρ1,os',rfl,a,b,rfl⟩
theorem zn0 {ms:List Bool} {rs:List Rv} {ρ ρ':Rho} {os:List O} {is:List Nat} (e:pass (true::ms) rs ρ=some (os,is,ρ')):∃i rt o os' is',rs=.at i []::rt/\ρ[i]? = some o/\o≠.z/\pass ms rt (ρ.set i .z)=some (os',is',ρ')/\os=o::os'/\is=i::is':=by
 cases rs with
 | nil=>cases e
 | cons r rt=>
  cases r with
  | own u=>cases e
  | «at» i p=>
   cases p with
   | cons k p=>cases e
   | nil=>
    rw[pass] at e
    cases a:ρ[i]? with
    | none=>rw[a] at e;cases e
    | some o=>
     rw[a] at e;have nz:o≠.z:=fun z=>by subst z;cases e
     have e':(match pass ms rt (ρ.set i .z) with
      | some (os,is,ρ2)=>some (o::os,i::is,ρ2)
      | none=>none)=some (os,is,ρ'):=by
      cases o<;>first | exact e | exact absurd rfl nz
     cases b:pass ms rt (ρ.set i .z) with
     | none=>rw[b] at e';cases e'
     | some z=>
      obtain ⟨os',is',ρ2⟩:=z;rw[b] at e'
      cases e'
      exact ⟨i,rt,o,os',is',rfl,a,nz,b,rfl,rfl⟩
theorem zrP {ms:List Bool}:∀{rs:List Rv} {ρ ρ':Rho} {os:List O} {is:List Nat} {i:Nat},pass ms rs ρ=some (os,is,ρ')->ρ[i]? = some O.z->ρ'[i]? = some O.z/\i∉is:=by
 induction ms with
 | nil=>
  intro rs ρ ρ' os is i e h
  cases rs with
  | nil=>cases e;exact ⟨h,fun z=>nomatch z⟩
  | cons r rt=>cases e
 | cons m ms ih=>
  intro rs ρ ρ' os is i e h
  cases m with
  | false=>
   obtain ⟨r,rt,o,ρ1,os',rfl,a,b,rfl⟩:=zn4 e;exact ih b (ztm a h)
  | true=>
   obtain ⟨j,rt,o,os',is',rfl,a,nz,b,rfl,rfl⟩:=zn0 e;have hj:j≠i:=fun z=>by subst z;rw[h] at a;cases a;exact nz rfl
   obtain ⟨q1,q2⟩:=ih b (i:=i) (by rw[List.getElem?_set_ne hj];exact h);exact ⟨q1,fun z=>(List.mem_cons.mp z).elim (fun z=>hj z.symm) q2⟩
structure zqA (mg:Str->Option Value) (K:PySem.W.Frag) (H:Hp) (σ:St) (ms:List Bool) (vs:List V) (W:Addr->Prop) (f g:Fp) (os:List O) (is:List Nat) (ρ':Rho) (W':Addr->Prop) (f' g':Fp):Prop where
 s:Sl mg K H W' σ ρ' f'
 v:Gv W f W' f'
 h:Hd mg K H W' vs os g'
 i:∀x,Inn g' x->(Inn g x\/Inn f x)/\W' x/\¬Inn f' x
 l:zr6 σ ρ' is (zfL ms vs)
 n:vs.length=ms.length
 j:ms.all (fun m=>!m)=true->∀x,Inn g' x->Inn g x
theorem zpK {ms:List Bool}:∀{rs:List Rv} {vs:List V} {W:Addr->Prop} {ρ ρ':Rho} {f g:Fp} {os:List O} {is:List Nat},Sl mg K H W σ ρ f->(∀x,Inn f x->W x)->Rvs mg K H W σ vs rs g->(∀x,Inn g x->W x/\¬Inn f x)->pass ms rs ρ=some (os,is,ρ')->
  ∃W' f' g',zqA mg K H σ ms vs W f g os is ρ' W' f' g':=by
 induction ms with
 | nil=>
  intro rs vs W ρ ρ' f g os is s sb h hg e
  cases rs with
  | cons r rt=>cases e
  | nil=>
   cases e
   cases vs with
   | nil=>exact ⟨W,f,_,s,.refl sb,.nil,fun x ⟨_,z⟩=>(nomatch z),⟨List.nodup_nil,rfl,fun j i e=>by simp at e⟩,rfl,fun _ x ⟨_,z⟩=>nomatch z⟩
   | cons v vs=>have:=h.len;simp at this
 | cons m ms ih=>
  intro rs vs W ρ ρ' f g os is s sb h hg e
  cases m with
  | false=>
   obtain ⟨r,rt,o,ρ1,os',rfl,a,b,rfl⟩:=zn4 e;obtain ⟨v,us,rfl,h0,ht⟩:=h.tail;obtain ⟨W1,f1,s1,g1,B,o1,nd1,in1⟩:=zgu s sb h0 a;have hg1:∀x,Inn g x->W1 x/\¬Inn f1 x:=fun x hx=>⟨(g1.more x (hg x hx).1).resolve_left (hg x hx).2,fun z=>(hg x hx).2 (g1.ours x z)⟩
   obtain ⟨W2,f2,g2,p⟩:=ih s1 g1.sub (ht.weak g1.less) (fun x ⟨k,hk⟩=>hg1 x ⟨k+1,hk⟩) b;have hB:∀x∈B,W1 x/\¬Inn f1 x:=fun x hx=>hg1 x ⟨0,in1 x hx⟩
   have ap:∀x∈B,¬Inn g2 x:=fun x hx z=>by
    rcases (p.i x z).1 with ⟨k,hk⟩ | q
    .exact h.fam.ap 0 (k+1) ∅ x (in1 x hx) hk
    .exact (hB x hx).2 q
   refine ⟨W2,f2,zhw B g2,p.s,g1.trans p.v,.cons (o1.on (DMv.weak p.v.less) fun _ _=>rfl) nd1 p.h ap,fun x hx=>?_,p.l,by simp[p.n],fun hm x hx=>(inn_cons.mp hx).elim (fun hx=>⟨0,in1 x hx⟩) fun hx=>(fun ⟨k,hk⟩=>⟨k+1,hk⟩) (p.j (by simpa using hm) x hx)⟩;rcases inn_cons.mp hx with hx | hx
   .exact ⟨.inl ⟨0,in1 x hx⟩,(p.v.more x (hB x hx).1).resolve_left (hB x hx).2,fun z=>(hB x hx).2 (p.v.ours x z)⟩
   .obtain ⟨q1,q2,q3⟩:=p.i x hx;exact ⟨q1.elim (fun ⟨k,hk⟩=>.inl ⟨k+1,hk⟩) fun z=>.inr (g1.ours x z),q2,q3⟩
  | true=>
   obtain ⟨i,rt,o,os',is',rfl,a,nz,b,rfl,rfl⟩:=zn0 e;obtain ⟨v,us,rfl,h0,ht⟩:=h.tail;obtain ⟨_,u,h1,h2⟩:=h0
   cases (show u=v from h2)
   rcases s.sl i o a with ⟨z,_⟩ | ⟨u',g1,ow⟩
   .exact absurd z nz
   .rw[h1] at g1;cases g1;have hil:i < ρ.length:=(List.getElem?_eq_some_iff.mp a).1;have sbZ:∀x,Inn (fset f i []) x->Inn f x:=fun x hx=>hx.set.elim id fun z=>nomatch z
    have outZ:∀x∈f i,¬Inn (fset f i []) x:=fun x hx hx__=>by
     obtain ⟨j,hj⟩:=hx__
     by_cases q:j=i
     .subst q;rw[zbr] at hj;cases hj
     .rw[zbI q] at hj;exact s.fam.ap j i q x hj hx
    obtain ⟨W2,f2,g2,p⟩:=ih (s.setZ (i:=i)) (fun x hx=>sb x (sbZ x hx)) ht (fun x ⟨k,hk⟩=>⟨(hg x ⟨k+1,hk⟩).1,fun z=>(hg x ⟨k+1,hk⟩).2 (sbZ x z)⟩) b;have ap:∀x∈f i,¬Inn g2 x:=fun x hx z=>by
     rcases (p.i x z).1 with ⟨k,hk⟩ | q
     .exact (hg x ⟨k+1,hk⟩).2 ⟨i,hx⟩
     .exact outZ x hx q
    obtain ⟨zi,ni⟩:=zrP b (i:=i) (List.getElem?_set_self hil);refine ⟨W2,f2,zhw (f i) g2,p.s,⟨p.v.less,fun x hx=>(p.v.more x hx).imp (sbZ x) id,fun x hx=>sbZ x (p.v.ours x hx),p.v.sub⟩,.cons (ow.on (DMv.weak p.v.less) fun _ _=>rfl) (s.fam.nd i) p.h ap,fun x hx=>?_,⟨List.nodup_cons.mpr ⟨ni,p.l.nd⟩,by simp[zfL,p.l.len],fun j k hk=>?_⟩,by simp[p.n],fun hm=>by simp at hm⟩
    .rcases inn_cons.mp hx with hx | hx
     .exact ⟨.inr ⟨i,hx⟩,(p.v.more x (sb x ⟨i,hx⟩)).resolve_left (outZ x hx),fun z=>outZ x hx (p.v.ours x z)⟩
     .obtain ⟨q1,q2,q3⟩:=p.i x hx;exact ⟨q1.elim (fun ⟨k,hk⟩=>.inl ⟨k+1,hk⟩) fun z=>.inr (sbZ x z),q2,q3⟩
    .cases j with
     | zero=>cases hk;exact ⟨v,rfl,h1,zi⟩
     | succ j=>exact p.l.at_ j k hk
theorem zmZ {is:List Nat}:∀{os:List O} {vs:List V} {W:Addr->Prop} {ρ:Rho} {f g:Fp},Sl mg K H W σ ρ f->zr6 σ ρ is vs->Hd mg K H W vs os g->(∀x,Inn g x->¬Inn f x)->∃f',Sl mg K H W σ (zeA is os ρ) f'/\∀x,Inn f' x->Inn f x\/Inn g x:=by
 induction is with
 | nil=>
  intro os vs W ρ f g s l h ap;exact ⟨f,by unfold zeA;exact s,fun x hx=>.inl hx⟩
 | cons i is ih=>
  intro os vs W ρ f g s l h ap
  cases os with
  | nil=>exact ⟨f,by unfold zeA;exact s,fun x hx=>.inl hx⟩
  | cons o os=>
   obtain ⟨v,e1,e2,e3⟩:=l.at_ 0 i rfl;obtain ⟨v',e1',ow⟩:=h.hd 0 o rfl;rw[e1] at e1'
   cases e1'
   cases vs with
   | nil=>cases e1
   | cons w vs=>
    cases e1;have s1:=s.setS e2 ow (h.fam.nd 0) fun x hx j _ z=>ap x ⟨0,hx⟩ ⟨j,z⟩
    have nd:=List.nodup_cons.mp l.nd;obtain ⟨f',a1,a2⟩:=ih (os:=os) (vs:=vs) (g:=fun k=>g (k+1)) s1 ⟨nd.2,by have:=l.len;simpa using this,fun j k hk=>by
      obtain ⟨u,q1,q2,q3⟩:=l.at_ (j+1) k hk;refine ⟨u,q1,q2, ?_⟩;rw[List.getElem?_set_ne (fun z:i=k=>nd.1 (z ▸ List.mem_of_getElem? hk))];exact q3⟩ ⟨fun k u e=>h.hd (k+1) u e,fun k hk=>h.no (k+1) (by simpa using hk),by have:=h.len;simpa using this,⟨fun k=>h.fam.nd _,fun k l hkl=>h.fam.ap _ _ ∅⟩⟩ (fun x ⟨k,hk⟩ z=>z.set.elim (ap x ⟨k+1,hk⟩) fun y=>h.fam.ap (k+1) 0 ∅ x hk y)
    exact ⟨f',by rw[zeA];exact a1,fun x hx=>(a2 x hx).elim (fun z=>z.set.imp id fun y=>⟨0,y⟩) fun ⟨k,hk⟩=>.inr ⟨k+1,hk⟩⟩
end
def kVS (mg:Str->Option Value) (K:PySem.W.Frag) (ms:List Bool) (vs:List V) (H:Hp) (Q:VK) (E:XK) (W:Addr->Prop) (g:Fp):Rc->Prop
 | .bad=>False
 | .ok o outs=>∀v H' W' B g',Ow mg K H' W' v o B->B.Nodup->Hd mg K H' W' (zfL ms vs) outs g'->(∀x∈B,¬Inn g' x)->Mv (Inn g) H W (fun x=>Inn g' x\/x∈B) H' W'->Q v H'
 | .ex c outs=>∀H' W' g',Hd mg K H' W' (zfL ms vs) outs g'->Mv (Inn g) H W (Inn g') H' W'->XW mg K E c H'
def VSp (mg:Str->Option Value) (K:PySem.W.Frag) (ms:List Bool) (F:FC):Sp:=fun vs H Q E=>vs.length=ms.length/\∃W os g,Hd mg K H W vs os g/\(∀x,Inn g x->W x)/\(∀x,W x->H x≠none)/\kVS mg K ms vs H Q E W g (F os)
def scl:O->Bool
 | .d .none=>true
 | .d (.bool _)=>true
 | ⇑_=>true
 | .d (.str _)=>true
 | _=>false
theorem zrD {mg:Str->Option Value} {K:PySem.W.Frag} {H:Hp} {W W':Addr->Prop} {v:V} {o:O} {B:List Addr} (h:Ow mg K H W v o B) (e:scl o=true):Ow mg K H W' v o []:=by
 unfold scl at e;split at e
 .rw[h.non];exact .d .non
 .rw[h.bl];exact .d (.bl _)
 .rw[h.int];exact ⇑_
 .rw[h.str];exact .d (.str _)
 .cases e
def zae (ms:List Bool) (F:FC) (A:AF):EF:=fun ρ=>(A ρ).bind fun rs ρ1 q=>match pass ms rs ρ1 with
 | some (os,is,ρ2)=>match F os with
  | .bad=>.bad
  | .ok o outs=>if ms.all (fun m=>!m)&&scl o then .ok (.own o) ρ1 false else .ok (.own o) (zeA is outs ρ2) false
  | .ex c outs=>.ex c (zeA is outs ρ2)
 | none=>.bad
abbrev VDef (P:Program) (w:World) (K:PySem.W.Frag) (mg:Str->Option Value) (base:Heap) (x:Str) (ps:List Str) (k:Nat) (ms:List Bool) (F:FC):Prop:=zlI P w K mg base x ps k (VSp mg K ms F)
section
variable {X:Cx} {E:XK}
theorem zpE {ms:List Bool} {F:FC} {A:AF} {σ:St} {H:Hp} {Q:VK} (h:tR X.mg X.K E (zae ms F A) σ H Q):zqy (VSp X.mg X.K ms F) [] E (tRs X.mg X.K E A) σ H Q:=by
 obtain ⟨W,ρ,f,ok,q⟩:=h;refine ⟨W,ρ,f,ok, ?_⟩;unfold zae at q
 cases a:A ρ with
 | bad=>rw[a] at q;exact q
 | ex c ρ'=>rw[a] at q;exact q
 | ok rs ρ1 q1=>
  rw[a] at q;intro vs H1 W1 f1 g s1 r1 n1 m1 k1;dsimp only[Re.bind] at q
  cases b:pass ms rs ρ1 with
  | none=>rw[b] at q;exact False.elim q
  | some z=>
   obtain ⟨os,is,ρ2⟩:=z;rw[b] at q;dsimp only at q;obtain ⟨W2,f2,g2,p⟩:=zpK s1 (fun x hx=>m1.sub' x (.inl hx)) r1 (fun x hx=>⟨m1.sub' x (.inr hx),n1 x hx⟩) b;have dom2:∀x,W2 x->H1 x≠none:=fun x hx=>m1.dom' x (p.v.less x hx)
   have m2:Mv (Inn f) H W (fun x=>Inn f2 x\/Inn g2 x) H1 W2:=m1.trans ⟨fun _ _ h _=>h,fun x h=>.inl (p.v.less x h),fun x h=>(p.v.more x h).imp .inl id,fun x h=>.inl (h.elim (fun z=>.inl (p.v.ours x z)) fun z=>(p.i x z).1.elim .inr .inl),m1.sub',m1.dom',fun x h=>h.elim (p.v.sub x) fun z=>(p.i x z).2.1,dom2⟩;rw[List.append_nil];refine ⟨p.n,W2,os,g2,p.h,fun x hx=>(p.i x hx).2.1,dom2, ?_⟩
   -- behind the call
   have rest:∀{H':Hp} {W':Addr->Prop} {g':Fp} {outs:List O} {B:List Addr},Hd X.mg X.K H' W' (zfL ms vs) outs g'->(∀x∈B,¬Inn g' x)->Mv (Inn g2) H1 W2 (fun x=>Inn g' x\/x∈B) H' W'->
     ∃f',Sl X.mg X.K H' W' σ (zeA is outs ρ2) f'/\(∀x∈B,¬Inn f' x)/\Mv (Inn f) H W (fun x=>Inn f' x\/x∈B) H' W':=fun {H' W' g' outs B} hd ap m=>by
    have keep:∀x,Inn f2 x->W' x/\H' x=H1 x:=fun x hx=>m.hand (p.v.sub x hx) fun z=>(p.i x z).2.2 hx
    have away:∀x,Inn f2 x->¬(Inn g' x\/x∈B):=fun x hx=>m.apart (p.v.sub x hx) fun z=>(p.i x z).2.2 hx
    have s3:Sl X.mg X.K H' W' σ ρ2 f2:=p.s.on m.d fun x hx=>(keep x hx).2
    obtain ⟨f',b1,b2⟩:=zmZ (os:=outs) s3 p.l hd fun x hx z=>away x z (.inl hx)
    refine ⟨f',b1,fun x hx z=>?_,m2.trans ⟨fun b o e n=>m.same b o e fun z=>n (.inr z),m.less,fun x w=>(m.more x w).imp .inr id,fun x w=>?_,m2.sub',m.dom,fun x w=>?_,m.dom'⟩⟩
    .rcases b2 x z with z | z
     .exact away x z (.inr hx)
     .exact ap x hx z
    .rcases w with w | w
     .rcases b2 x w with z | z
      .exact .inl (.inl z)
      .exact (m.ours x (.inl z)).imp .inr id
     .exact (m.ours x (.inr w)).imp .inr id
    .rcases w with w | w
     .rcases b2 x w with z | z
      .exact (keep x z).1
      .exact m.sub' x (.inl z)
     .exact m.sub' x (.inr w)
   cases c:F os with
   | bad=>rw[c] at q;exact q
   | ok o outs=>
    rw[c] at q;intro v H' W' B g' ow nd hd ap m;dsimp only at q
    by_cases hm:(ms.all (fun m=>!m)&&scl o)=true
    .rw[if_pos hm] at q;rw[Bool.and_eq_true] at hm;have gg:=p.j hm.1;have ng:∀x,Inn f1 x->¬Inn g2 x:=fun x hx z=>n1 x (gg x z) hx
     have keep:∀x,Inn f1 x->H' x=H1 x:=fun x hx=>by
      cases e:H1 x with
      | none=>exact absurd e (m1.dom' x (m1.sub' x (.inl hx)))
      | some u=>exact m.same x u e (ng x hx)
     have dm:DMv H1 W1 H' (fun x=>W' x\/Inn f1 x):=fun a o ha na=>⟨m.same a o ha fun z=>na (m1.sub' a (.inr (gg a z))),fun z=>z.elim (fun z=>(m.less a z).elim (fun y=>na (p.v.less a y)) fun y=>by rw[ha] at y;cases y) fun z=>na (m1.sub' a (.inl z))⟩
     refine q v H' (fun x=>W' x\/Inn f1 x) f1 [] (s1.on dm keep) ⟨zrD ow hm.2,List.nodup_nil⟩ (fun x z=>nomatch z) ((m1.trans ⟨fun b o e n=>m.same b o e fun z=>n (.inr (gg b z)),fun x w=>?_,fun x w=>?_,fun x w=>.inl (.inl w),m1.sub',m1.dom',fun x w=>.inr w,fun x w=>?_⟩).narrow fun x hx=>hx.resolve_right fun z=>nomatch z) fun z=>nomatch z
     .exact w.elim (fun w=>(m.less x w).imp (p.v.less x) id) fun w=>.inl (m1.sub' x (.inl w))
     .rcases p.v.more x w with y | y
      .exact .inl (.inl y)
      .exact (m.more x y).imp (fun z=>.inr (gg x z)) .inl
     .exact w.elim (m.dom' x) fun w=>by rw[keep x w];exact m1.dom' x (m1.sub' x (.inl w))
    .rw[if_neg hm] at q;obtain ⟨f',b1,b2,b3⟩:=rest hd ap m;exact q v H' W' f' B b1 ⟨ow,nd⟩ b2 b3 fun z=>nomatch z
   | ex c outs=>
    rw[c] at q;intro H' W' g' hd m;obtain ⟨f',b1,_,b3⟩:=rest (B:=[]) hd (fun x z=>nomatch z) (m.narrow fun x hx=>hx.resolve_right fun z=>nomatch z);exact q H' W' f' b1 (b3.narrow fun x hx=>.inl hx)
theorem zfk {k j:Nat} {ps:List Str} {ms:List Bool} {F:FC} {x:Str} {p pos:Pos} {e:Expr} {es:List Expr} {A:AF} (C:VDef X.prog X.w X.K X.mg X.base x ps k ms F) (hr:Room j X.A) (hj:k<=j) (hg:Gl X x) (hx:zhT (CXF X.prog X.w X.base) X E) (ha:VA X E (e::es) A)
  (hdb:(x==("__debug__":Str))=false:=by decide +kernel) (he:starEach (e::es) X.env=(false,eval e X.env)::starEach es X.env:=by rfl) (hpl:(backTo pos (starEach es X.env)).any (·.1)=false:=by rfl) :
  VR X E (.Call (.Name x p) (e::es) [] pos) (zae ms F A):=by
 obtain ⟨f,fd,h1,h2,h3,h4⟩:=C.ex;exact (zpO h4 (hr.mono hj) hg h1 h2 h3 .nil hx ha hdb he hpl).imp fun σ H Q h=>zpE h
theorem zj9:zhT (CXF X.prog X.w X.base) X E0':=fun pins σ H s e s' I h=>by
 obtain ⟨_,_,_,_,_,_,_,_,_,_,z⟩:=h;exact z.elim
def runF (ms:List Bool) (n:Nat) (S:SF):FC:=fun os=>match S (os++List.replicate (n - os.length) .z) with
 | .nx ρ'=>.ok (.d .none) (zcx ms ρ')
 | .rt o ρ'=>.ok o (zcx ms ρ')
 | .ex c ρ'=>.ex c (zcx ms ρ')
 | _=>.bad
theorem zpH {mg:Str->Option Value} {K:PySem.W.Frag} {H:Hp} {W:Addr->Prop} {ms:List Bool}:∀{vs:List V} {ρ:Rho} {σ:St} {f:Fp} {k:Nat},(∀(i:Nat) (o:O),ρ[i]? = some o->(o=.z/\f i=[])\/∃v,σ[i]? = some (some v)/\Ow mg K H W v o (f i))->Fam f->ms.length<=ρ.length->vs.length=ms.length->
  (∀(i:Nat) (v:V),ms[i]? = some true->vs[i]? = some v->σ[i]? = some (some v))->Hd mg K H W (zfL ms vs) (zcx ms ρ) (ze7 ms f)/\∀x,Inn (ze7 ms f) x->Inn f x:=by
 induction ms with
 | nil=>intro vs ρ σ f k _ _ _ _ _;exact ⟨by unfold zfL zcx ze7;exact .nil,fun x ⟨_,z⟩=>by unfold ze7 at z;cases z⟩
 | cons m ms ih=>
  intro vs ρ σ f k h fm hl hv hh
  cases ρ with
  | nil=>simp at hl
  | cons o ρ=>
   cases vs with
   | nil=>simp at hv
   | cons v vs=>
    obtain ⟨a,b⟩:=ih (vs:=vs) (ρ:=ρ) (σ:=σ.tail) (f:=fun i=>f (i+1)) (k:=k) (fun i u e=>by
     have:=h (i+1) u e
     simpa [List.getElem?_tail] using this) ⟨fun i=>fm.nd _,fun i j hij=>fm.ap _ _ ∅⟩ (by simpa using hl) (by simpa using hv) (fun i u e1 e2=>by
     have:=hh (i+1) u e1 e2
     simpa [List.getElem?_tail] using this)
    cases m with
    | false=>exact ⟨by rw[zfL,zcx,ze7];exact a,fun x hx=>by rw[ze7] at hx;obtain ⟨i,hi⟩:=b x hx;exact ⟨i+1,hi⟩⟩
    | true=>
     have ow:Ow mg K H W v o (f 0):=by
      rcases h 0 o rfl with ⟨rfl,e⟩ | ⟨u,e1,e2⟩
      .rw[e];exact .z v
      .rw[hh 0 v rfl rfl] at e1;cases e1;exact e2
     have ap:∀x∈f 0,¬Inn (ze7 ms fun i=>f (i+1)) x:=fun x hx z=>by
      obtain ⟨i,hi⟩:=b x z;exact fm.ap 0 (i+1) ∅ x hx hi
     refine ⟨by rw[zfL,zcx,ze7];exact .cons ow (fm.nd 0) a ap,fun x hx=>?_⟩;rw[ze7] at hx;rcases inn_cons.mp hx with hx | hx
     .exact ⟨0,hx⟩
     .obtain ⟨i,hi⟩:=b x hx;exact ⟨i+1,hi⟩
theorem zlm:∀{ms:List Bool} {k i:Nat},ms[i]? = some true->k+i∈zhk k ms:=by
 intro ms
 induction ms with
 | nil=>intro k i h;simp at h
 | cons m ms ih=>
  intro k i h
  cases i with
  | zero=>cases h;rw[zhk];exact List.mem_cons_self
  | succ i=>
   have:=ih (k:=k+1) (i:=i) (by simpa using h)
   rw[show k+1+i=k+(i+1) by omega] at this
   cases m with
   | true=>rw[zhk];exact List.mem_cons_of_mem _ this
   | false=>rw[zhk];exact this
theorem zi4 {mg:Str->Option Value} {K:PySem.W.Frag} {H:Hp} {W:Addr->Prop} {N:List Str} {vs:List V} {os:List O} {g:Fp} (h:Hd mg K H W vs os g) (hn:vs.length<=N.length):Sl mg K H W (start N vs) (os++List.replicate (N.length - os.length) .z) g:=by
 have hl:=h.len;refine ⟨fun i o e=>?_,fun i hi=>h.no i (by simp at hi;omega),by unfold start;simp;omega,h.fam⟩
 by_cases hi:i < os.length
 .rw[List.getElem?_append_left hi] at e;obtain ⟨v,e1,e2⟩:=h.hd i o e;refine .inr ⟨v, ?_,e2⟩;unfold start;rw[List.getElem?_append_left (by simp;omega),List.getElem?_map,e1];rfl
 .rw[List.getElem?_append_right ∅,List.getElem?_replicate] at e;split at e
  .cases e;exact .inl ⟨rfl,h.no i ∅⟩
  .cases e
theorem zqD {P:Program} {w:World} {K:PySem.W.Frag} {mg:Str->Option Value} {base:Heap} {x:Str} {st:Stmt} {N ps:List Str} {k n:Nat} {ms:List Bool} {S:SF} (d:∃f fd,Fun K x x st f fd/\mg x=some (.ref f))
  (hb:∀(kV doc pm:Value) (an:Option Addr) (cdv ct:Value) (us:List Value),us.length=ps.length->bindArgs (PySem.W.fnOf x x (zdu st) (zch st) (zaf st) .none kV doc pm an cdv ct) ⟨us,[]⟩=pure (ps.zip us))
  (sc:zak N ps (zaf st)) (hms:ms.length=ps.length) (hn:N.length=n) (hpn:ps.length<=n)
  (body:∀(f:Addr) (cdv:Value) (A:Around) (outer:List Env) (s:Shared) (H:Hp) (E:XK),Room k (A.deeper (envOfC x (zaf st) s.heap.objs.size f cdv))->
   VSs (cxOf (CXF P w base) P w K mg base N x (zaf st) f cdv A outer s H E) E (zhk 0 ms) (zch st) S):VDef P w K mg base x ps (k+1) ms (runF ms n S):=by
 subst hn;refine zkp d hb sc (fun vs H Q E h=>h.1.trans hms) fun f cdv A outer s H vs Q E hr h=>⟨_,body f cdv A outer s H E hr, ?_⟩
 obtain ⟨hl,W,os,g,hd,sb,dm,q⟩:=h;have s0:=zi4 (N:=N) hd ∅;have hlo:=hd.len;refine tS.mk ⟨s0,sb,dm⟩ ?_;have held:∀{σ':St} {ρ':Rho} {H':Hp} {W':Addr->Prop} {f':Fp},Sl mg K H' W' σ' ρ' f'->Held (zhk 0 ms) (start N vs) σ'->Hd mg K H' W' (zfL ms vs) (zcx ms ρ') (ze7 ms f')/\∀x,Inn (ze7 ms f') x->Inn f' x:=fun {σ' ρ' H' W' f'} s' l'=>
  zpH (k:=0) s'.sl s'.fam (by rw[s'.len,l'.1];unfold start;simp;omega) hl fun i v e1 e2=>by
   have:=l'.2 i (by have:=zlm (k:=0) e1;rwa [Nat.zero_add] at this)
   rw[this];unfold start;have hi:i < vs.length:=(List.getElem?_eq_some_iff.mp e2).1;rw[List.getElem?_append_left (by simpa using hi),List.getElem?_map,e2];rfl
 unfold runF at q
 cases a:S (os++List.replicate (N.length - os.length) .z) with
 | bad=>rw[a] at q;exact q
 | br ρ'=>rw[a] at q;exact False.elim q
 | ct ρ'=>rw[a] at q;exact False.elim q
 | nx ρ'=>
  rw[a] at q;intro σ' H' W' f' s' m' l';obtain ⟨h1,h2⟩:=held s' l';exact q .non H' W' [] _ (.d .non) List.nodup_nil h1 (fun x z=>nomatch z) (m'.narrow fun x hx=>hx.elim (h2 x) fun z=>nomatch z)
 | rt o ρ'=>
  rw[a] at q;intro v σ' H' W' f' B s' ow nd ap m' l';obtain ⟨h1,h2⟩:=held s' l';exact q v H' W' B _ ow nd h1 (fun x hx z=>ap x hx (h2 x z)) (m'.narrow fun x hx=>hx.imp (h2 x) id)
 | ex c ρ'=>
  rw[a] at q;intro σ' H' W' f' s' m' l';obtain ⟨h1,h2⟩:=held s' l';exact q H' W' _ h1 (m'.narrow h2)
end
end L2
local macro_rules|`(↥$x)=>`(L2.eC (.int $x))
namespace L2
open PySem PySem.Spec PySem.Calls PyProof.Rows
section
variable {X:Cx} {E:XK} {L:List Nat} {elt tgt iter:Expr} {ifs:List Expr} {scope:Scope} {pos:Pos} {N':List Str} {js:List (Option Nat)} {G:GF} {T:TF} {A A0:EF}
abbrev Blk (X:Cx) (N':List Str) (scope:Scope) (js:List (Option Nat)) (tgt:Expr) (ifs:List Expr) (elt:Expr) (G:GF) (T:TF) (A:EF):Prop:=∀(s':Shared) (H':Hp) (ex:List Addr),
 VG (blk X N' scope s' H' ex) (capL js) tgt G/\PF (blk X N' scope s' H' ex) ifs (tT X.mg X.K E0' T)/\VR (blk X N' scope s' H' ex) E0' elt A
theorem zfX {p cpos:Pos} {e:Expr} (hi:VR X E e A0) (hgl:Gl X "range") (hm:X.mg "range"=none) (hc:X.calm=true) (hcap:zh0 X.N X.env.scope N' scope js=true) (hf:zeM X.env.scope scope=true) (hkind:scope.kind=.function) (nd:(caps js).Nodup)
  (hb:Blk X N' scope js tgt ifs elt G T A) (hst:starEach [e] X.env=[(false,eval e X.env)]:=by rfl)
  (hs:∀x,foldedSetIterable (.Call (.Name "range" p) [e] [] cpos) X.env x=pure x:=by intro _;rfl):VR X E (.ListComp elt [⟨tgt,.Call (.Name "range" p) [e] [] cpos,ifs,0⟩] scope pos) (eLC (itR1 A0) js G T A):=
 (zoJ hc (zf0 hgl hm (zdP hi zeQ hst) hst) hcap zhY hf hkind hb hs).imp fun σ H Q h=>zrh nd h
theorem zq8 {wi:TI} {te:TE} {tt:TT} {g:TG} {B:EF} {i:Nat} {D:Ends} {σ:St} {H:Hp} (hL:i∉L) (lc:∀{Q:VK},tR X.mg X.K E B σ H Q->tLC wi js g tt te σ H Q) (h:tS X.mg X.K E L (sAsg coe B (gtN i)) D σ H):tAsg (tLC wi js g tt te) (zkk i) D σ H:=
 lc (tR.mono (zlQ za0 h) fun v H1 hx__=>by
  obtain ⟨W,ρ,f,o,B,ρ',sl,ow,nd,ap,sb,dm,e,q⟩:=hx__;unfold gtN at e
  by_cases hi:i < ρ.length
  .rw[if_pos hi] at e;cases e;exact q _ _ (sl.bind i ow nd ap hi) (fun x hx=>hx.set) (zfS hL)
  .rw[if_neg hi] at e;cases e)
theorem zjA {p cpos:Pos} {e:Expr} {i:Nat} {y:Str} {py spos:Pos} (hN:X.N.Nodup) (hiy:X.N[i]? = some y) (hy:Loc X.env.scope y) (hL:i∉L) (hi:VR X E e A0) (hgl:Gl X "range") (hm:X.mg "range"=none) (hc:X.calm=true) (hcap:zh0 X.N X.env.scope N' scope js=true) (hf:zeM X.env.scope scope=true) (hkind:scope.kind=.function) (nd:(caps js).Nodup) (hb:Blk X N' scope js tgt ifs elt G T A)
  (hst:starEach [e] X.env=[(false,eval e X.env)]:=by rfl)
  (hsw:swapsWith (.ListComp elt [⟨tgt,.Call (.Name "range" p) [e] [] cpos,ifs,0⟩] scope pos) (some (.Name y py)) spos.line X.env=pure true:=by rfl) (hs:∀x,foldedSetIterable (.Call (.Name "range" p) [e] [] cpos) X.env x=pure x:=by intro _;rfl) (hfn:X.fn y=true\/X.env.scope.names.lookup y=some .local:=by first | exact .inl rfl | exact .inr rfl | assumption) :
  VS X E L (.Assign [.Name y py] (.ListComp elt [⟨tgt,.Call (.Name "range" p) [e] [] cpos,ifs,0⟩] scope pos) spos) (sAsg coe (eLC (itR1 A0) js G T A) (gtN i)):=
 (ziX hN hiy hy hc (zf0 hgl hm (zdP hi zeQ hst) hst) hcap zhY hf hkind hb hsw hs hfn).imp fun D σ H h=>zq8 hL (fun h=>zrh nd h) h
end
section
variable {X:Cx} {E:XK}
def decS:O->Option Str
 | .d (.str s)=>some s
 | _=>none
end
theorem Room.units65 {k:Nat} {A:Around} (r:Room k A):A.units+65 < cLine:=by have:=r.un;omega
section
variable {X:Cx} {E:XK}
theorem zqb {o:Expr} {A:EF} {apos cpos:Pos} (ho:VR X E o A) (h:∀{t:TE},PE X o t->PE X (.Call (.Attribute o "bit_length" apos) [] [] cpos) (tBM0 X.K "int" (fun x xs H Q=>∃i,x=.int i/\xs=[]/\Q (.int (Builtin.Int.intBits i)) H) t)) :
  VR X E (.Call (.Attribute o "bit_length" apos) [] [] cpos) (e1 A zki):=zpB ho (h ho)
theorem zl9 {c e:Expr} {C A:EF} {apos cpos:Pos} (hc:VR X E c C) (he:VR X E e A) (h:∀{to t:TE},PE X c to->PE X e t->PE X (.Call (.Attribute c "append" apos) [e] [] cpos) (tBM X.K "list" ziM to (zkb t tNil))):VR X E (.Call (.Attribute c "append" apos) [e] [] cpos) (eApp C A):=zsj hc he (h hc he)
end
def zjn (K:PySem.W.Frag):Sp:=fun vs H Q _=>∃(a:Addr) (ns:List Int),vs=[.ref a]/\SqL K H a (ns.map V.int)/\ns.length<=63/\∀H',Q (.bl true) H'
theorem zov {K:PySem.W.Frag} {H:Hp} {a:Addr} {ns:List Int} (hl:ns.length<=63) (_:Only H) (hS:SqL K H a (ns.map V.int)):zjn K [.ref a] H (fun v _=>v=.bl true) fun _ _ _=>False:=⟨a,ns,rfl,hS,hl,fun _=>rfl⟩
theorem zrv {P:Program} {w:World} {K:PySem.W.Frag} {mg:Str->Option Value} {base:Heap} {x p:Str} {st:Stmt} {N:List Str} {k n:Nat} {S:SF} (d:∃f fd,Fun K x x st f fd/\mg x=some (.ref f))
  (hb:∀(kV doc pm:Value) (an:Option Addr) (cdv ct:Value) (us:List Value),us.length=[p].length->bindArgs (PySem.W.fnOf x x (zdu st) (zch st) (zaf st) .none kV doc pm an cdv ct) ⟨us,[]⟩=pure ([p].zip us))
  (sc:zak N [p] (zaf st)) (hn:N.length=n) (hpn:1<=n)
  (body:∀(f:Addr) (cdv:Value) (A:Around) (outer:List Env) (s:Shared) (H:Hp) (E:XK),Room k (A.deeper (envOfC x (zaf st) s.heap.objs.size f cdv))->
   VSs (cxOf CX0 P w K mg base N x (zaf st) f cdv A outer s H E).nox E0' [] (zch st) S)
  (hF:∀ns:List Int,ns.length<=63->∃ρ',S (.q (ns.map V.int)::List.replicate (n - 1) .z)=.rt (.d (.bool true)) ρ'):zjq P w K mg base x [p] (k+1) (zjn K):=by
 subst hn;refine zky d hb sc (fun vs H Q E ⟨a,ns,e,_⟩=>by rw[e];rfl) fun f cdv A outer s H vs Q E hr h=>⟨_,body f cdv A outer s H E hr, ?_⟩
 obtain ⟨a,ns,rfl,hS,hl,k⟩:=h;obtain ⟨ρ',e⟩:=hF ns hl;have hd:Hd mg K H (fun _=>False) [.ref a] [.q (ns.map V.int)] (zhw [] fun _=>[]):=.cons (.q (hS.imp (fun z=>⟨z,fun z=>z⟩) id)) List.nodup_nil .nil fun x z=>nomatch z
 have s0:=zi4 (N:=N) hd (by simpa using hpn);refine tS.mk ⟨s0,fun x hx=>?_,fun x z=>z.elim⟩ ?_
 .rcases inn_cons.mp hx with z | ⟨_,z⟩<;>cases z
 .rw[show ([O.q (ns.map V.int)]++List.replicate (N.length - [O.q (ns.map V.int)].length) O.z)=.q (ns.map V.int)::List.replicate (N.length - 1) .z from rfl,e];intro v σ' H' W' f' B s' ow nd ap m' l';rw[ow.bl];exact k H'
def cov (ρ:Rho) (r:Rv):Option (List PyData×Bool×Rho):=match coe ρ r with
 | some (o,ρ2)=>match fz o with
  | some (.list ds)=>some (ds,true,ρ2)
  | some (.tuple ds)=>some (ds,false,ρ2)
  | _=>none
 | none=>none
def zfA (ρ:Rho):Rv->Option (List PyData×Bool×Nat×O)
 | .own _=>none
 | .at i p=>match ρ[i]? with
  | some oi=>match sub p oi with
   | some (.l os)=>match lds os with
    | some ds=>some (ds,true,i,oi)
    | none=>none
   | some (.t os)=>match lds os with
    | some ds=>some (ds,false,i,oi)
    | none=>none
   | _=>none
  | none=>none
theorem zra {mg:Str->Option Value} {K:PySem.W.Frag} {H:Hp} {W:Addr->Prop} {σ:St} {ρ ρ':Rho} {f:Fp} {r:Rv} {v:V} {B:List Addr} {ds:List PyData} {k:Bool} (s:Sl mg K H W σ ρ f) (sb:∀x,Inn f x->W x) (h:RvOk mg K H W σ v r B) (hB:∀x∈B,W x/\¬Inn f x) (e:cov ρ r=some (ds,k,ρ')) :
  ∃a xs W' f',v=.ref a/\H a=some (if k then .lst xs else .tup xs)/\¬W' a/\Dns H W' xs ds/\Sl mg K H W' σ ρ' f'/\(∀x,W' x->W x)/\(∀x,W x->(Inn f x\/x∈B)\/W' x)/\(∀x,Inn f' x->Inn f x)/\(∀x,Inn f' x->W' x):=by
 unfold cov at e
 cases b:coe ρ r with
 | none=>rw[b] at e;cases e
 | some z=>
  obtain ⟨o,ρ2⟩:=z;rw[b] at e;dsimp only at e;obtain ⟨W2,f2,s2,g2,As,ow,nd2,in2⟩:=zgu s sb h b;have hA:∀x∈As,¬Inn f2 x:=fun x hx z=>(hB x (in2 x hx)).2 (g2.ours x z)
  have s3:Sl mg K H (fun x=>W2 x/\x∉As) σ ρ2 f2:=s2.on (DMv.weak fun _ z=>z.1) fun _ _=>rfl
  have more:∀x,W x->(Inn f x\/x∈B)\/(W2 x/\x∉As):=fun x w=>by
   by_cases y:x∈As
   .exact .inl (.inr (in2 x y))
   .exact (g2.more x w).imp .inl fun u=>⟨u,y⟩
  cases c:fz o with
  | none=>rw[c] at e;cases e
  | some x=>
   rw[c] at e
   cases x with
   | list xs=>
    cases e
    cases (ow.dn (W':=fun x=>W2 x/\x∉As) (fun _ z=>z.1) c fun x hx z=>z.2 hx) with
    | lst n hh t=>exact ⟨_,_,_,f2,rfl,hh,n,t,s3,fun x z=>g2.less x z.1,more,g2.ours,fun x hx=>⟨g2.sub x hx,fun z=>hA x z hx⟩⟩
   | tuple xs=>
    cases e
    cases (ow.dn (W':=fun x=>W2 x/\x∉As) (fun _ z=>z.1) c fun x hx z=>z.2 hx) with
    | tup n hh t=>exact ⟨_,_,_,f2,rfl,hh,n,t,s3,fun x z=>g2.less x z.1,more,g2.ours,fun x hx=>⟨g2.sub x hx,fun z=>hA x z hx⟩⟩
   | _=>cases e
abbrev Src:=List O×Option (Nat×O)
def srcM (view:Bool) (mk:List PyData->List O) (A:EF):Rho->Re (Src×Bool):=fun ρ=>(A ρ).bind fun r ρ1 q=>match (if view then zfA ρ1 r else none) with
 | some (ds,k,i,oi)=>.ok ((mk ds,some (i,oi)),k) (ρ1.set i .z) q
 | none=>match cov ρ1 r with
  | some (ds,k,ρ2)=>.ok ((mk ds,none),k) ρ2 q
  | none=>.bad
def ziH:Option (Nat×O)->Rho->Rho
 | none,ρ=>ρ
 | some (i,o),ρ=>ρ.set i o
section
variable {mg:Str->Option Value} {K:PySem.W.Frag} {E:XK}
def Kept (mg:Str->Option Value) (K:PySem.W.Frag) (σ:St) (H0:Hp) (f0:Fp) (H:Hp) (W:Addr->Prop) (f:Fp):Option (Nat×O)->Prop
 | none=>True
 | some (i,o)=>∃u C,σ[i]? = some (some u)/\Ow mg K H W u o C/\C.Nodup/\∀x∈C,W x/\¬Inn f x/\(Inn f0 x\/H0 x=none)
def kSrc (mg : Str -> Option Value) (K : PySem.W.Frag) (E : XK) (mk : List PyData -> List O) (σ : St) (H : Hp) (W : Addr -> Prop) (f : Fp) (R : V -> Hp -> Prop) : Re (Src × Bool) -> Prop
  | .bad => False
  | .ex c ρ' => ∀ H' W' f', Sl mg K H' W' σ ρ' f' -> Mv (Inn f) H W (Inn f') H' W' -> XW mg K E c H'
  | .ok ((items, rs), k) ρ' q => ∀ a xs ds H' W' f', Sl mg K H' W' σ ρ' f' -> Mv (Inn f) H W (Inn f') H' W' -> (q = true -> ∀ x, Inn f x -> H' x = H x) -> H' a = some (if k then .lst xs else .tup xs) -> Dns H' W' xs ds -> items = mk ds ->
          (∀ H2 W2 A2, Mv (Inn f') H' W' A2 H2 W2 -> H2 a = H' a) -> Kept mg K σ H f H' W' f' rs -> R (.ref a) H'
theorem srcd {view:Bool} {mk:List PyData->List O} {A:EF} {σ:St} {H:Hp} {W:Addr->Prop} {ρ:Rho} {f:Fp} {R:V->Hp->Prop} (ok:Ok mg K H W σ ρ f)
  (q:kSrc mg K E mk σ H W f R (srcM view mk A ρ)) :
  tR mg K E A σ H R:=by
 refine ⟨W,ρ,f,ok, ?_⟩;unfold srcM at q
 cases a:A ρ with
 | bad=>rw[a] at q;exact q
 | ex c ρ'=>rw[a] at q;exact q
 | ok r ρ1 k0=>
  rw[a] at q;dsimp only[Re.bind] at q ⊢;intro v H1 W1 f1 B s1 r1 n1 m1 k1;have viaCov:(match cov ρ1 r with
    | some (ds,k,ρ2)=>(Re.ok ((mk ds,none),k) ρ2 k0:Re (Src×Bool))
    | none=>.bad)=(match (if view then zfA ρ1 r else none) with
    | some (ds,k,i,oi)=>.ok ((mk ds,some (i,oi)),k) (ρ1.set i .z) k0
    | none=>match cov ρ1 r with
     | some (ds,k,ρ2)=>.ok ((mk ds,none),k) ρ2 k0
     | none=>.bad)->R v H1:=fun e=>by
   rw[<-e] at q
   cases c:cov ρ1 r with
   | none=>rw[c] at q;exact False.elim q
   | some z=>
    obtain ⟨ds,k,ρ2⟩:=z;rw[c] at q;obtain ⟨b,xs,W2,f2,rfl,h1,h2,h3,h4,h5,h6,h7,h8⟩:=zra s1 (fun x hx=>m1.sub' x (.inl hx)) r1 (fun x hx=>⟨m1.sub' x (.inr hx),n1 x hx⟩) c;refine q b xs ds H1 W2 f2 h4 (m1.trans ⟨fun _ _ h _=>h,fun x h=>.inl (h5 x h),h6,fun x h=>.inl (.inl (h7 x h)),m1.sub',m1.dom',h8,fun x h=>m1.dom' x (h5 x h)⟩) k1 h1 h3 rfl (fun H2 W2' A2 m=>?_) trivial;rw[(m.d b _ h1 h2).1,h1]
  cases view with
  | false=>exact viaCov rfl
  | true=>
   rw[if_pos rfl] at q viaCov
   cases c:zfA ρ1 r with
   | none=>rw[c] at viaCov;exact viaCov rfl
   | some z=>
    obtain ⟨ds,k,i,oi⟩:=z;rw[c] at q;dsimp only at q
    cases r with
    | own o=>cases c
    | «at» j p=>
     rw[zfA] at c
     cases c1:ρ1[j]? with
     | none=>rw[c1] at c;cases c
     | some oj=>
      rw[c1] at c;dsimp only at c;have c2:∃n os,sub p oj=some n/\els n=some (k,os)/\lds os=some ds/\j=i/\oj=oi:=by
       split at c
       .rename_i os e
        cases e2:lds os with
        | none=>rw[e2] at c;cases c
        | some y=>rw[e2] at c;cases c;exact ⟨_,os,e,rfl,e2,rfl,rfl⟩
       .rename_i os e
        cases e2:lds os with
        | none=>rw[e2] at c;cases c
        | some y=>rw[e2] at c;cases c;exact ⟨_,os,e,rfl,e2,rfl,rfl⟩
       .cases c
      obtain ⟨n,os,e1,e2,e3,rfl,rfl⟩:=c2;obtain ⟨_,u,h1,h2⟩:=r1;rcases s1.sl j oj c1 with ⟨rfl,_⟩ | ⟨u',g1,ow⟩
      .cases p with
       | nil=>cases e1;cases e2
       | cons=>cases e1
      .rw[h1] at g1;cases g1;obtain ⟨w,D,k1',k2,k3⟩:=ow.sub e1
       cases k1'.inj h2
       obtain ⟨b,vs,rfl,hb,dn⟩:=k2.items e2 e3;have hz:Sl mg K H1 W1 σ (ρ1.set j .z) (fset f1 j []):=s1.setZ;have sbz:∀x,Inn (fset f1 j []) x->Inn f1 x:=fun x hx=>hx.set.elim id fun z=>nomatch z
       have outz:∀x∈f1 j,¬Inn (fset f1 j []) x:=fun x hx hx__=>by
        obtain ⟨l,hl⟩:=hx__
        by_cases q:l=j
        .subst q;rw[zbr] at hl;cases hl
        .rw[zbI q] at hl;exact s1.fam.ap l j q x hl hx
       refine q b vs ds H1 W1 (fset f1 j []) hz (m1.narrow fun x hx=>.inl (sbz x hx)) k1 hb dn rfl (fun H2 W2 A2 m=>?_) ⟨u,f1 j,h1,ow,s1.fam.nd j,fun x hx=>⟨m1.sub' x (.inl ⟨j,hx⟩),outz x hx,m1.ours x (.inl ⟨j,hx⟩)⟩⟩
       by_cases hw:W1 b
       .have hbn:¬Inn (fset f1 j []) b:=by
         -- a list that is zlM is not another name's
         cases n with
         | l us=>
          cases k2 with
          | l _ _=>exact outz b (k3.subset List.mem_cons_self)
         | t us=>cases k2 with | t nw _ _=>exact absurd hw nw
         | d x=>
          cases k2 with
          | d hd=>cases hd with
           | lst nw _ _=>exact absurd hw nw
           | tup nw _ _=>exact absurd hw nw
           | _=>cases e2
         | _=>cases e2
        exact (m.hand hw hbn).2
       .rw[(m.d b _ hb hw).1,hb]
theorem Kept.back {σ:St} {H0 H1 H2:Hp} {W1 W2:Addr->Prop} {f0 f1 f2:Fp} {A2:Addr->Prop} {rs:Option (Nat×O)} {ρ:Rho} {W0:Addr->Prop} (k:Kept mg K σ H0 f0 H1 W1 f1 rs) (m:Mv (Inn f1) H1 W1 A2 H2 W2) (hA:∀x,Inn f2 x->A2 x) (s:Sl mg K H2 W2 σ ρ f2) (m0:Mv (Inn f0) H0 W0 (Inn f1) H1 W1) :
  ∃f3,Sl mg K H2 W2 σ (ziH rs ρ) f3/\(∀x,A2 x->¬Inn f2 x->¬Inn f3 x)/\Mv (Inn f0) H0 W0 (fun x=>Inn f3 x\/A2 x) H2 W2:=by
 cases rs with
 | none=>exact ⟨f2,s,fun x _ h=>h,(m0.trans m).narrow fun x hx=>hx.elim (hA x) id⟩
 | some z=>
  obtain ⟨i,o⟩:=z;obtain ⟨u,C,h1,h2,h3,h4⟩:=k;have keep:∀x∈C,W2 x/\H2 x=H1 x:=fun x hx=>m.hand (h4 x hx).1 (h4 x hx).2.1
  have away:∀x∈C,¬A2 x:=fun x hx=>m.apart (h4 x hx).1 (h4 x hx).2.1
  refine ⟨fset f2 i C,s.setS h1 (h2.on m.d fun x hx=>(keep x hx).2) h3 fun x hx j _ z=>away x hx (hA x ⟨j,z⟩),fun x ha hn z=>z.set.elim hn fun y=>away x y ha, ?_⟩;have mm:=m0.trans m;exact ⟨mm.same,mm.less,mm.more,fun x hx=>hx.elim (fun z=>z.set.elim (fun y=>mm.ours x (hA x y)) fun y=>(h4 x y).2.2) (mm.ours x),mm.sub,mm.dom,fun x hx=>hx.elim (fun z=>z.set.elim (fun y=>mm.sub' x (hA x y)) fun y=>(keep x y).1) (mm.sub' x),mm.dom'⟩
end
def eLS (I:Rho->Re (Src×Bool)) (js:List (Option Nat)) (G:GF) (T:TF) (A:EF):EF:=fun ρ=>match I ρ with
 | .bad=>.bad
 | .ex c ρ'=>.ex c ρ'
 | .ok ((items,rs),_) ρ1 q1=>if items.length<=sizeLine then match lcF js G T A items ρ1 [] true with
   | .ok os ρ2 q2=>.ok (.own (.l os)) (ziH rs ρ2) (q1&&q2)
   | _=>.bad
  else .bad
def iLT (K:PySem.W.Frag) (tl:TE):TI:=fun σ H R=>tl σ H fun x H1=>∃(a:Addr) (xs:List V) (k:Bool),x=.ref a/\H1 a=some (if k then .lst xs else .tup xs)/\R (if k then ItL a else Itt K a) H1
theorem zpx {X:Cx} {tg l:Expr} {tl:TE} (hl:PE X l tl):PI X tg l (iLT X.K tl):=by
 intro pins s σ H R I h;refine thn (hl pins s σ H _ I h) fun v s1 hx__=>?_
 obtain ⟨x,H1,I1,r1,q1⟩:=hx__;obtain ⟨a,xs,k,e,hq,q⟩:=q1;subst e;cases r1
 cases k with
 | true=>
  obtain ⟨its,rv,p,hz⟩:=I1.list (SqL.of hq);refine wpAny_pyIter_list p.isList ?_;refine ⟨s1.heap.objs.size,[s1.heap.objs.size],_,ItL a,H1,rfl,I1.kept (t':=s1.toks) (fun b o e=>Heap.get?_push_of_some _ e),zp5 a _,⟨_,Heap.get?_push_size _ rfl,rfl,rfl⟩,fun b hb=>?_,q⟩;obtain rfl:b=s1.heap.objs.size:=by simpa using hb
  exact I1.fpOk (Nat.le_refl _) (I1.hok.fresh (Nat.le_refl _))
 | false=>
  obtain ⟨its,rv,p,hz⟩:=I1.tuple (SqT.of hq);refine wpAny_pyIter_tuple (show s1.heap.IsTuple a its.toArray from p) ?_;refine ⟨s1.heap.objs.size,[s1.heap.objs.size],_,_,H1,rfl,I1.kept (t':=s1.toks) fun b o e=>Heap.get?_push_of_some _ e,zj3 a _,⟨_,Heap.get?_push_size _ rfl,rfl,rfl⟩,fun b hb=>?_,q⟩;have e:b=s1.heap.objs.size:=by simpa using hb
  subst e;exact I1.fpOk (Nat.le_refl _) (I1.hok.fresh (Nat.le_refl _))
section
variable {mg:Str->Option Value} {K:PySem.W.Frag} {E:XK}
theorem zqG {a:Addr} {xs:List V} {ds:List PyData} {k:Bool} {H1:Hp} {W1:Addr->Prop} {f1:Fp} (ha:H1 a=some (if k then .lst xs else .tup xs)) (dn:Dns H1 W1 xs ds) (st:∀H2 W2 A2,Mv (Inn f1) H1 W1 A2 H2 W2->H2 a=H1 a) :
  (∀i H W',(∃A',Mv (Inn f1) H1 W1 A' H W')->i < (ds.map O.d).length->(if k then ItL a else Itt K a).go i H)/\(∀H W',(∃A',Mv (Inn f1) H1 W1 A' H W')->(if k then ItL a else Itt K a).stop (ds.map O.d).length H)/\
  (∀i H W' x H',(∃A',Mv (Inn f1) H1 W1 A' H W')->(∀x,W' x->H x≠none)->i < (ds.map O.d).length->(if k then ItL a else Itt K a).yld i H x H'->Gr H W' [] H' W'/\∃o,(ds.map O.d)[i]? = some o/\Ow mg K H' W' x o []):=by
 refine ⟨fun i H2 W2 ⟨_,mm⟩ hi=>?_,fun H2 W2 ⟨_,mm⟩=>?_,fun i H2 W2 x H3 ⟨_,mm⟩ dd hi y=>?_⟩
 .rw[List.length_map,<-dn.length] at hi;have e:=(st H2 W2 _ mm).trans ha
  cases k with
  | true=>exact ⟨xs,xs[i],e,by simp[hi]⟩
  | false=>exact ⟨xs,xs[i],SqT.of e,by simp[hi]⟩
 .have e:=(st H2 W2 _ mm).trans ha
  cases k with
  | true=>exact ⟨xs,e,by rw[List.length_map,dn.length];exact Nat.le_refl _⟩
  | false=>exact ⟨xs,SqT.of e,by rw[List.length_map,dn.length];exact Nat.le_refl _⟩
 .have e:=(st H2 W2 _ mm).trans ha
  have:H3=H2/\xs[i]? = some x:=by
   cases k with
   | true=>exact ⟨y.1,y.2 xs e⟩
   | false=>exact ⟨y.1,y.2 xs (SqT.of e)⟩
  obtain ⟨rfl,hx⟩:=this;obtain ⟨d,e1,e2⟩:=dn.getV hx;exact ⟨.refl,.d d,by rw[List.getElem?_map,e1];rfl,.d (e2.on mm.d)⟩
theorem zoE {σ:St} {H:Hp} {W:Addr->Prop} {ρ ρ2:Rho} {f f1:Fp} {Q:VK} {os:List O} {H1:Hp} {W1:Addr->Prop} {q1 q2:Bool} {rs:Option (Nat×O)} (ok:Ok mg K H W σ ρ f) (m1:Mv (Inn f) H W (Inn f1) H1 W1) (k1:q1=true->∀x,Inn f x->H1 x=H x) (kp:Kept mg K σ H f H1 W1 f1 rs)
  (q:∀v H' W' f' B,Sl mg K H' W' σ (ziH rs ρ2) f'->RvOk mg K H' W' σ v (.own (.l os)) B->(∀x∈B,¬Inn f' x)->Mv (Inn f) H W (fun x=>Inn f' x\/x∈B) H' W'->((q1&&q2)=true->∀x,Inn f x->H' x=H x)->Q v H') :
  ∀l acc H' W' f' As,H' l=none->Sl mg K H' W' σ ρ2 f'->Ows mg K H' W' acc os As->As.Nodup->(∀x∈As,¬Inn f' x)->Mv (Inn f1) H1 W1 (fun x=>Inn f' x\/x∈As) H' W'->(q2=true->∀x,Inn f1 x->H' x=H1 x)->Q (.ref l) (upd H' l (.lst acc)):=fun l acc H' W' f' As hl s o nd ap m k=>by
 obtain ⟨f3,s3,ap3,m3⟩:=kp.back m (fun x hx=>.inl hx) s m1;have g:Gr H' W' [l] (upd H' l (.lst acc)) (fun x=>W' x\/x∈[l]):=Gr.newO hl;have hlA:l∉As:=fun z=>m.dom' l (m.sub' l (.inr z)) hl
 have sub3:∀x,Inn f3 x->W' x:=fun x hx=>m3.sub' x (.inl hx)
 refine q (.ref l) _ _ f3 (l::As) (s3.on g.d fun x hx=>g.kept m.dom' (sub3 x hx)) ⟨.l zbx (o.on g.d fun x hx=>g.kept m.dom' (m.sub' x (.inr hx))),List.nodup_cons.mpr ⟨hlA,nd⟩⟩ (fun x hx z=>?_) ((m3.trans (g.mv m3.sub' m3.dom')).narrow fun x hx=>?_) fun hq=>g.quiet ok (zgS ok k1 m k hq)
 .rcases List.mem_cons.mp hx with rfl | hx
  .exact m.dom' x (sub3 x z) hl
  .exact ap3 x (.inr hx) (ap x hx) z
 .rcases hx with hx | hx
  .exact .inl (.inl hx)
  .rcases List.mem_cons.mp hx with rfl | hx
   .exact .inr List.mem_cons_self
   .exact .inl (.inr (.inr hx))
theorem lc_S {view:Bool} {A0 A:EF} {js:List (Option Nat)} {G:GF} {T:TF} {σ:St} {H:Hp} {Q:VK} (nd:(caps js).Nodup) (h:tR mg K E (eLS (srcM view (fun ds=>ds.map O.d) A0) js G T A) σ H Q):tLC (iLT K (tR mg K E A0)) js (tTg mg K (capL js) G) (tT mg K E0' T) (tR mg K E0' A) σ H Q:=by
 obtain ⟨W,ρ,f,ok,q⟩:=h;refine srcd (view:=view) (mk:=fun ds=>ds.map O.d) ok ?_;unfold eLS at q
 cases ea:srcM view (fun ds=>ds.map O.d) A0 ρ with
 | bad=>rw[ea] at q;exact q
 | ex c ρ'=>rw[ea] at q;exact q
 | ok z ρ1 q1=>
  obtain ⟨⟨items,rs⟩,kd⟩:=z;rw[ea] at q;dsimp only at q ⊢;intro a xs ds H' W' f' s m k ha dn hit st kp
  by_cases hz:items.length<=sizeLine
  .rw[if_pos hz] at q
   cases b:lcF js G T A items ρ1 [] true with
   | bad=>rw[b] at q;exact False.elim q
   | ex c ρ'=>rw[b] at q;exact False.elim q
   | ok os ρ2 q2=>
    rw[b] at q;subst hit;obtain ⟨g1,g2,g3⟩:=zqG (mg:=mg) (K:=K) ha dn st;exact ⟨a,xs,kd,rfl,ha,ziJ (items:=ds.map O.d) (.next s m fun _ z=>z) nd (fun k i=>zfM) hz g1 g2 g3 b (zoE ok m k kp q)⟩
  .rw[if_neg hz] at q;exact False.elim q
end
section
variable {X:Cx} {E:XK} {L:List Nat} {elt tgt iter:Expr} {ifs:List Expr} {scope:Scope} {pos:Pos} {N':List Str} {js:List (Option Nat)} {G:GF} {T:TF} {A A0:EF} {view:Bool}
theorem zgW (view:Bool) (hi:VR X E iter A0) (hc:X.calm=true) (hcap:zh0 X.N X.env.scope N' scope js=true) (hf:zeM X.env.scope scope=true) (hkind:scope.kind=.function) (nd:(caps js).Nodup) (hb:Blk X N' scope js tgt ifs elt G T A)
  (hs:∀x,foldedSetIterable iter X.env x=pure x:=by intro _;rfl):VR X E (.ListComp elt [⟨tgt,iter,ifs,0⟩] scope pos) (eLS (srcM view (fun ds=>ds.map O.d) A0) js G T A):=
 (zoJ hc (zpx hi) hcap zhY hf hkind hb hs).imp fun σ H Q h=>lc_S nd h
theorem zoY (view:Bool) {i:Nat} {y:Str} {py spos:Pos} (hN:X.N.Nodup) (hiy:X.N[i]? = some y) (hy:Loc X.env.scope y) (hL:i∉L) (hi:VR X E iter A0) (hc:X.calm=true) (hcap:zh0 X.N X.env.scope N' scope js=true) (hf:zeM X.env.scope scope=true) (hkind:scope.kind=.function) (nd:(caps js).Nodup) (hb:Blk X N' scope js tgt ifs elt G T A)
  (hsw:swapsWith (.ListComp elt [⟨tgt,iter,ifs,0⟩] scope pos) (some (.Name y py)) spos.line X.env=pure true:=by rfl) (hs:∀x,foldedSetIterable iter X.env x=pure x:=by intro _;rfl) (hfn:X.fn y=true\/X.env.scope.names.lookup y=some .local:=by first | exact .inl rfl | exact .inr rfl | assumption) :
  VS X E L (.Assign [.Name y py] (.ListComp elt [⟨tgt,iter,ifs,0⟩] scope pos) spos) (sAsg coe (eLS (srcM view (fun ds=>ds.map O.d) A0) js G T A) (gtN i)):=
 (ziX hN hiy hy hc (zpx hi) hcap zhY hf hkind hb hsw hs hfn).imp fun D σ H h=>zq8 hL (fun h=>lc_S nd h) h
def zg1 (I:Rho->Re (Src×Bool)) (G:GF) (S:SF):SF:=fun ρ=>match I ρ with
 | .bad=>.bad
 | .ex c ρ'=>.ex c ρ'
 | .ok ((items,_),_) ρ' _=>forF G S items ρ'
theorem zo6 {body:List Stmt} {S:SF} (hp:PassesOwn (model X.prog X.w) X.A X.env X.xe) (hc:X.calm=true) (hi:VR X E iter A) (hg:VG X L tgt G) (hb:VSs X E L body S)
  (hs:∀x,foldedSetIterable iter X.env x=pure x:=by intro _;rfl):VS X E L (.For tgt iter body [] pos) (zg1 (srcM false (fun ds=>ds.map O.d) A) G S):=(zja hp hc (zpx hi) hg hb hs).imp fun D σ H h=>by
 obtain ⟨W,ρ,f,ok,q⟩:=h.aft;refine srcd (view:=false) (mk:=fun ds=>ds.map O.d) ok ?_;unfold zg1 at q
 cases ea:srcM false (fun ds=>ds.map O.d) A ρ with
 | bad=>rw[ea] at q;exact q
 | ex c ρ'=>rw[ea] at q;exact fun H' W' f' s m=>q σ H' W' f' s m .refl
 | ok z ρ1 q1=>
  obtain ⟨⟨items,rs⟩,kd⟩:=z;rw[ea] at q;dsimp only at q ⊢;intro a xs ds H' W' f' s m k ha dn hit st kp;subst hit;obtain ⟨g1,g2,g3⟩:=zqG (mg:=X.mg) (K:=X.K) ha dn st;exact ⟨a,xs,kd,rfl,ha,zfO (items:=ds.map O.d) (.next s m fun _ z=>z) g1 g2 g3 (q.step m .refl)⟩
end
end L2
namespace L2
open PySem
def eFz (A:EF):EF:=fun ρ=>match A ρ with
 | .ok (.own o) ρ' q=>match fz o with
  | some x=>.ok (.own (.d x)) ρ' q
  | none=>.bad
 | r=>r
theorem zpA {X:Cx} {E:XK} {e:Expr} {A:EF} (h:VR X E e A):VR X E e (eFz A):=h.imp fun σ H Q hx__=>by
 obtain ⟨W,ρ,f,ok,q⟩:=hx__;refine ⟨W,ρ,f,ok, ?_⟩;unfold eFz at q
 cases eA:A ρ with
 | bad=>rw[eA] at q;exact q
 | ex c ρ'=>rw[eA] at q;exact q
 | ok r ρ' b=>
  rw[eA] at q
  cases r with
  | «at» i p=>exact q
  | own o=>
   dsimp only at q ⊢
   cases ef:fz o with
   | none=>rw[ef] at q;exact False.elim q
   | some x=>
    rw[ef] at q;dsimp only at q;intro v H' W' f' B s hr hB m kk;refine q v H' (fun a=>W' a/\a∉B) f' [] (s.on (fun a o ha hw=>⟨ha,fun z=>hw z.1⟩) fun _ _=>rfl) ⟨.d (hr.1.dn (fun a ha=>ha.1) ef fun y hy hw=>hw.2 hy),.nil⟩ (fun x hx=>by cases hx) ⟨m.same,fun x hx=>m.less x hx.1,fun x hx=>?_,fun x hx=>?_,m.sub,m.dom,fun x hx=>?_,fun x hx=>m.dom' x hx.1⟩ kk
    .rcases m.more x hx with a | a
     .exact .inl a
     .by_cases hb:x∈B
      .exact .inl ((m.ours x (.inr hb)).resolve_right fun z=>m.dom x hx z)
      .exact .inr ⟨a,hb⟩
    .rcases hx with hx | hx
     .exact m.ours x (.inl hx)
     .cases hx
    .rcases hx with hx | hx
     .exact ⟨m.sub' x (.inl hx),fun z=>hB x z hx⟩
     .cases hx
section
variable {ρ ρ1:Rho} {A B C:EF} {i:Nat} {x y o:O} {a b:Int}
@[simp] theorem lk0 (a0:O) (l:List O):(a0::l)[0]? = some a0:=rfl
@[simp] theorem st0 (a0 x:O) (l:List O):(a0::l).set 0 x=x::l:=rfl
@[simp] theorem lk1 (a0 a1:O) (l:List O):(a0::a1::l)[1]? = some a1:=rfl
@[simp] theorem st1 (a0 a1 x:O) (l:List O):(a0::a1::l).set 1 x=a0::x::l:=rfl
@[simp] theorem lk2 (a0 a1 a2:O) (l:List O):(a0::a1::a2::l)[2]? = some a2:=rfl
@[simp] theorem st2 (a0 a1 a2 x:O) (l:List O):(a0::a1::a2::l).set 2 x=a0::a1::x::l:=rfl
@[simp] theorem lk3 (a0 a1 a2 a3:O) (l:List O):(a0::a1::a2::a3::l)[3]? = some a3:=rfl
@[simp] theorem st3 (a0 a1 a2 a3 x:O) (l:List O):(a0::a1::a2::a3::l).set 3 x=a0::a1::a2::x::l:=rfl
@[simp] theorem lk4 (a0 a1 a2 a3 a4:O) (l:List O):(a0::a1::a2::a3::a4::l)[4]? = some a4:=rfl
@[simp] theorem st4 (a0 a1 a2 a3 a4 x:O) (l:List O):(a0::a1::a2::a3::a4::l).set 4 x=a0::a1::a2::a3::x::l:=rfl
@[simp] theorem lk5 (a0 a1 a2 a3 a4 a5:O) (l:List O):(a0::a1::a2::a3::a4::a5::l)[5]? = some a5:=rfl
@[simp] theorem st5 (a0 a1 a2 a3 a4 a5 x:O) (l:List O):(a0::a1::a2::a3::a4::a5::l).set 5 x=a0::a1::a2::a3::a4::x::l:=rfl
@[simp] theorem lk6 (a0 a1 a2 a3 a4 a5 a6:O) (l:List O):(a0::a1::a2::a3::a4::a5::a6::l)[6]? = some a6:=rfl
@[simp] theorem st6 (a0 a1 a2 a3 a4 a5 a6 x:O) (l:List O):(a0::a1::a2::a3::a4::a5::a6::l).set 6 x=a0::a1::a2::a3::a4::a5::x::l:=rfl
@[simp] theorem lk7 (a0 a1 a2 a3 a4 a5 a6 a7:O) (l:List O):(a0::a1::a2::a3::a4::a5::a6::a7::l)[7]? = some a7:=rfl
@[simp] theorem st7 (a0 a1 a2 a3 a4 a5 a6 a7 x:O) (l:List O):(a0::a1::a2::a3::a4::a5::a6::a7::l).set 7 x=a0::a1::a2::a3::a4::a5::a6::x::l:=rfl
@[simp] theorem lk8 (a0 a1 a2 a3 a4 a5 a6 a7 a8:O) (l:List O):(a0::a1::a2::a3::a4::a5::a6::a7::a8::l)[8]? = some a8:=rfl
@[simp] theorem st8 (a0 a1 a2 a3 a4 a5 a6 a7 a8 x:O) (l:List O):(a0::a1::a2::a3::a4::a5::a6::a7::a8::l).set 8 x=a0::a1::a2::a3::a4::a5::a6::a7::x::l:=rfl
@[simp] theorem lk9 (a0 a1 a2 a3 a4 a5 a6 a7 a8 a9:O) (l:List O):(a0::a1::a2::a3::a4::a5::a6::a7::a8::a9::l)[9]? = some a9:=rfl
@[simp] theorem st9 (a0 a1 a2 a3 a4 a5 a6 a7 a8 a9 x:O) (l:List O):(a0::a1::a2::a3::a4::a5::a6::a7::a8::a9::l).set 9 x=a0::a1::a2::a3::a4::a5::a6::a7::a8::x::l:=rfl
@[simp] theorem lk10 (a0 a1 a2 a3 a4 a5 a6 a7 a8 a9 a10:O) (l:List O):(a0::a1::a2::a3::a4::a5::a6::a7::a8::a9::a10::l)[10]? = some a10:=rfl
@[simp] theorem st10 (a0 a1 a2 a3 a4 a5 a6 a7 a8 a9 a10 x:O) (l:List O):(a0::a1::a2::a3::a4::a5::a6::a7::a8::a9::a10::l).set 10 x=a0::a1::a2::a3::a4::a5::a6::a7::a8::a9::x::l:=rfl
@[simp] theorem lk11 (a0 a1 a2 a3 a4 a5 a6 a7 a8 a9 a10 a11:O) (l:List O):(a0::a1::a2::a3::a4::a5::a6::a7::a8::a9::a10::a11::l)[11]? = some a11:=rfl
@[simp] theorem st11 (a0 a1 a2 a3 a4 a5 a6 a7 a8 a9 a10 a11 x:O) (l:List O):(a0::a1::a2::a3::a4::a5::a6::a7::a8::a9::a10::a11::l).set 11 x=a0::a1::a2::a3::a4::a5::a6::a7::a8::a9::a10::x::l:=rfl
@[simp] theorem lk12 (a0 a1 a2 a3 a4 a5 a6 a7 a8 a9 a10 a11 a12:O) (l:List O):(a0::a1::a2::a3::a4::a5::a6::a7::a8::a9::a10::a11::a12::l)[12]? = some a12:=rfl
@[simp] theorem st12 (a0 a1 a2 a3 a4 a5 a6 a7 a8 a9 a10 a11 a12 x:O) (l:List O):(a0::a1::a2::a3::a4::a5::a6::a7::a8::a9::a10::a11::a12::l).set 12 x=a0::a1::a2::a3::a4::a5::a6::a7::a8::a9::a10::a11::x::l:=rfl
@[simp] theorem lk13 (a0 a1 a2 a3 a4 a5 a6 a7 a8 a9 a10 a11 a12 a13:O) (l:List O):(a0::a1::a2::a3::a4::a5::a6::a7::a8::a9::a10::a11::a12::a13::l)[13]? = some a13:=rfl
@[simp] theorem st13 (a0 a1 a2 a3 a4 a5 a6 a7 a8 a9 a10 a11 a12 a13 x:O) (l:List O):(a0::a1::a2::a3::a4::a5::a6::a7::a8::a9::a10::a11::a12::a13::l).set 13 x=a0::a1::a2::a3::a4::a5::a6::a7::a8::a9::a10::a11::a12::x::l:=rfl
@[simp] theorem lk14 (a0 a1 a2 a3 a4 a5 a6 a7 a8 a9 a10 a11 a12 a13 a14:O) (l:List O):(a0::a1::a2::a3::a4::a5::a6::a7::a8::a9::a10::a11::a12::a13::a14::l)[14]? = some a14:=rfl
@[simp] theorem st14 (a0 a1 a2 a3 a4 a5 a6 a7 a8 a9 a10 a11 a12 a13 a14 x:O) (l:List O):(a0::a1::a2::a3::a4::a5::a6::a7::a8::a9::a10::a11::a12::a13::a14::l).set 14 x=a0::a1::a2::a3::a4::a5::a6::a7::a8::a9::a10::a11::a12::a13::x::l:=rfl
@[simp] theorem lk15 (a0 a1 a2 a3 a4 a5 a6 a7 a8 a9 a10 a11 a12 a13 a14 a15:O) (l:List O):(a0::a1::a2::a3::a4::a5::a6::a7::a8::a9::a10::a11::a12::a13::a14::a15::l)[15]? = some a15:=rfl
@[simp] theorem st15 (a0 a1 a2 a3 a4 a5 a6 a7 a8 a9 a10 a11 a12 a13 a14 a15 x:O) (l:List O):(a0::a1::a2::a3::a4::a5::a6::a7::a8::a9::a10::a11::a12::a13::a14::a15::l).set 15 x=a0::a1::a2::a3::a4::a5::a6::a7::a8::a9::a10::a11::a12::a13::a14::x::l:=rfl
@[simp] theorem lk16 (a0 a1 a2 a3 a4 a5 a6 a7 a8 a9 a10 a11 a12 a13 a14 a15 a16:O) (l:List O):(a0::a1::a2::a3::a4::a5::a6::a7::a8::a9::a10::a11::a12::a13::a14::a15::a16::l)[16]? = some a16:=rfl
@[simp] theorem st16 (a0 a1 a2 a3 a4 a5 a6 a7 a8 a9 a10 a11 a12 a13 a14 a15 a16 x:O) (l:List O):(a0::a1::a2::a3::a4::a5::a6::a7::a8::a9::a10::a11::a12::a13::a14::a15::a16::l).set 16 x=a0::a1::a2::a3::a4::a5::a6::a7::a8::a9::a10::a11::a12::a13::a14::a15::x::l:=rfl
@[simp] theorem lk17 (a0 a1 a2 a3 a4 a5 a6 a7 a8 a9 a10 a11 a12 a13 a14 a15 a16 a17:O) (l:List O):(a0::a1::a2::a3::a4::a5::a6::a7::a8::a9::a10::a11::a12::a13::a14::a15::a16::a17::l)[17]? = some a17:=rfl
@[simp] theorem st17 (a0 a1 a2 a3 a4 a5 a6 a7 a8 a9 a10 a11 a12 a13 a14 a15 a16 a17 x:O) (l:List O):(a0::a1::a2::a3::a4::a5::a6::a7::a8::a9::a10::a11::a12::a13::a14::a15::a16::a17::l).set 17 x=a0::a1::a2::a3::a4::a5::a6::a7::a8::a9::a10::a11::a12::a13::a14::a15::a16::x::l:=rfl
@[simp] theorem zsE (S T:SF):sSeq S T ρ=match S ρ with | .nx ρ'=>T ρ' | r=>r:=rfl
@[simp] theorem zsw (take:Rho->Rv->Option (O×Rho)) (G:GF):sAsg take A G ρ=match A ρ with
 | .bad=>.bad
 | .ok r ρ' _=>match take ρ' r with
  | some (o,ρ1)=>match G o ρ1 with
   | some ρ2=>.nx ρ2
   | none=>.bad
  | none=>.bad
 | .ex c ρ'=>.ex c ρ':=rfl
@[simp] theorem zsy (take:Rho->Rv->Option (O×Rho)):sRet take A ρ=match A ρ with
 | .bad=>.bad
 | .ok r ρ' _=>match take ρ' r with
  | some (o,ρ'')=>.rt o ρ''
  | none=>.bad
 | .ex c ρ'=>.ex c ρ':=rfl
@[simp] theorem zs1 (T:TF) (S U:SF):sIf T S U ρ=match T ρ with
 | .bad=>.bad
 | .ok b ρ' _=>if b then S ρ' else U ρ'
 | .ex c ρ'=>.ex c ρ':=rfl
@[simp] theorem zqO:za3 A ρ=match A ρ with
 | .bad=>.bad
 | .ok _ ρ' _=>.nx ρ'
 | .ex c ρ'=>.ex c ρ':=rfl
@[simp] theorem zsT:sNil ρ=.nx ρ:=rfl
@[simp] theorem zsY:sBrk ρ=.br ρ:=rfl
@[simp] theorem zqV:zue ρ=.rt (.d .none) ρ:=rfl
@[simp] theorem zuq (x:PyData):eC x ρ=.ok (.own (.d x)) ρ true:=rfl
theorem zsA (h:ρ[i]? = some o) (nz:o≠.z):zaa i ρ=.ok (.at i []) ρ true:=by
 unfold zaa;rw[h]
 cases o<;>first | rfl | exact absurd rfl nz
@[simp] theorem zqv:zaa i ρ=match ρ[i]? with | some .z=>.bad | some _=>.ok (.at i []) ρ true | none=>.bad:=rfl
@[simp] theorem vn_d (x:PyData):vn ρ (.own (.d x))=some (.d x):=rfl
@[simp] theorem vn_l (xs:List O):vn ρ (.own (.l xs))=some (.l xs):=rfl
@[simp] theorem vn_t (xs:List O):vn ρ (.own (.t xs))=some (.t xs):=rfl
def nz:Option O->Option O
 | some .z=>none
 | o=>o
@[simp] theorem nz_d (x:PyData):nz (some (.d x))=some (.d x):=rfl
@[simp] theorem nz_l (x:List O):nz (some (.l x))=some (.l x):=rfl
@[simp] theorem nz_t (x:List O):nz (some (.t x))=some (.t x):=rfl
@[simp] theorem nz_q (x:List V):nz (some (.q x))=some (.q x):=rfl
@[simp] theorem nz_x (x:Str):nz (some (.x x))=some (.x x):=rfl
@[simp] theorem nz_z:nz (some .z)=none:=rfl
@[simp] theorem ztp:nz none=none:=rfl
theorem zqq:vw ρ (.at i [])=ρ[i]? := by
 rw[vw];split
 .rename_i o h;rw[h]
  cases o<;>rfl
 .rename_i h;rw[h]
@[simp] theorem znN:vn ρ (.at i [])=nz ρ[i]? := by
 unfold vn;rw[zqq]
 cases h:ρ[i]? with
 | none=>rfl
 | some o=>cases o<;>rfl
@[simp] theorem zto {q:Bool}:pok ρ q (.own o)=true:=rfl
@[simp] theorem ztD {q:Bool}:pok ρ q (.at i [])=true:=rfl
@[simp] theorem zuM (F:O->O->Option O):e2 A B F ρ=(A ρ).bind fun ra ρ1 q1=>(B ρ1).bind fun rb ρ2 q2=>
 if pok ρ1 q2 ra then match vn ρ2 ra,vn ρ2 rb with
  | some x,some y=>match F x y with
   | some z=>.ok (.own z) ρ2 (q1&&q2)
   | none=>.bad
  | _,_=>.bad
 else .bad:=rfl
@[simp] theorem zuL (F:O->Option O):e1 A F ρ=(A ρ).bind fun ra ρ1 q1=>match vn ρ1 ra with
 | some x=>match F x with
  | some z=>.ok (.own z) ρ1 q1
  | none=>.bad
 | none=>.bad:=rfl
@[simp] theorem zs3:tst A ρ=match A ρ with
 | .bad=>.bad
 | .ex c ρ'=>.ex c ρ'
 | .ok r ρ' q=>match vn ρ' r with
  | some (.d (.bool b))=>.ok b ρ' q
  | _=>.bad:=rfl
@[simp] theorem ztX {α:Type} (dec:O->Option α):eSc dec A ρ=(A ρ).bind fun r ρ' q=>match vn ρ' r with
 | some o=>match dec o with
  | some a=>.ok a ρ' q
  | none=>.bad
 | none=>.bad:=rfl
@[simp] theorem zuI:decI ⇑a=some a:=rfl
@[simp] theorem zuw (b:Bool):decB (.d (.bool b))=some b:=rfl
@[simp] theorem zus (s:Str):decS (.d (.str s))=some s:=rfl
@[simp] theorem zsG {α:Type} (a:α):gRet a ρ=.ok a ρ true:=rfl
@[simp] theorem zqo {α β:Type} (G:Rho->Re α) (F:α->Rho->Re β):zb5 G F ρ=(G ρ).bind fun a ρ1 q1=>(F a ρ1).bind fun b ρ2 q2=>.ok b ρ2 (q1&&q2):=rfl
@[simp] theorem zqc {α:Type} (G:Rho->Re α) (F:α->EF):zis G F ρ=(G ρ).bind fun a ρ1 q1=>(F a ρ1).bind fun b ρ2 q2=>.ok b ρ2 (q1&&q2):=rfl
@[simp] theorem zs0 (G:TF):eOfB G ρ=(G ρ).bind fun b ρ' q=>.ok (.own (.d (.bool b))) ρ' q:=rfl
@[simp] theorem zsx:eAnd A B ρ=eOfB (zb5 (eSc decB A) fun c=>if c then eSc decB B else gRet false) ρ:=rfl
@[simp] theorem zth:eOr A B ρ=eOfB (zb5 (eSc decB A) fun c=>if c then gRet true else eSc decB B) ρ:=rfl
@[simp] theorem zsR:eNot A ρ=eOfB (zb5 (eSc decB A) fun c=>gRet (!c)) ρ:=rfl
@[simp] theorem zt8 (S:TF):eIf S A B ρ=zis S (fun c=>if c then A else B) ρ:=rfl
@[simp] theorem zsu (S T:TF):gAnd S T ρ=zb5 S (fun c=>if c then T else gRet false) ρ:=rfl
@[simp] theorem ztB (S T:TF):gOr S T ρ=zb5 S (fun c=>if c then gRet true else T) ρ:=rfl
@[simp] theorem zsX (S:TF):gNot S ρ=zb5 S (fun c=>gRet (!c)) ρ:=rfl
@[simp] theorem zpV (p q:Int->Int->Bool):zdM A B C p q ρ=zb5 (eSc decI A) (fun a=>zb5 (eSc decI B) fun b=>if p a b then zb5 (eSc decI C) fun c=>gRet (q b c) else gRet false) ρ:=rfl
@[simp] theorem zsV:aNil ρ=.ok [] ρ true:=rfl
@[simp] theorem zrm (R:AF):zac A R ρ=(A ρ).bind fun r ρ1 q1=>(R ρ1).bind fun rs ρ2 q2=>if pok ρ1 q2 r then .ok (r::rs) ρ2 (q1&&q2) else .bad:=rfl
@[simp] theorem zuH (R:AF) (F:List O->Option O):eB R F ρ=(R ρ).bind fun rs ρ1 q=>match vns ρ1 rs with
 | some os=>match F os with
  | some z=>.ok (.own z) ρ1 q
  | none=>.bad
 | none=>.bad:=rfl
@[simp] theorem ztW:vns ρ []=some []:=rfl
@[simp] theorem zsB (r:Rv) (rs:List Rv):vns ρ (r::rs)=match vn ρ r,vns ρ rs with | some o,some os=>some (o::os) | _,_=>none:=rfl
@[simp] theorem zuO (F:O->Option O):f1 F [o]=F o:=rfl
@[simp] theorem ztP (F:Int->Int->Int):f2I F [⇑a,⇑b]=some ⇑(F a b):=rfl
@[simp] theorem ztI:coe ρ (.own o)=some (o,ρ):=rfl
@[simp] theorem ztF:mov ρ (.own o)=some (o,ρ):=rfl
@[simp] theorem zs5:mov ρ (.at i [])=match ρ[i]? with | some .z=>none | some o=>some (o,ρ.set i .z) | none=>none:=rfl
@[simp] theorem ztN:sub [] o=some o:=by cases o<;>rfl
@[simp] theorem ztx:coe ρ (.at i [])=match ρ[i]? with
  | some (.d x)=>some (.d x,ρ)
  | some (.x c)=>some (.x c,ρ)
  | some (.g o)=>some (.g o,ρ)
  | some (.q o)=>some (.q o,ρ)
  | some o=>match fz o with
   | some x=>some (.d x,ρ.set i (.d x))
   | none=>none
  | none=>none:=by
 rw[coe]
 cases ρ[i]? with
 | none=>rfl
 | some o=>
  cases o with
  | l xs=>simp;cases fz (.l xs)<;>rfl
  | t xs=>simp;cases fz (.t xs)<;>rfl
  | z=>rfl
  | _=>rfl
@[simp] theorem zsH:coes ρ []=some ([],ρ):=rfl
@[simp] theorem zqu (r:Rv) (rs:List Rv):coes ρ (r::rs)=match coe ρ r with
  | some (o,ρ1)=>match coes ρ1 rs with
   | some (os,ρ2)=>some (o::os,ρ2)
   | none=>none
  | none=>none:=rfl
@[simp] theorem zsC:movs ρ []=some ([],ρ):=rfl
@[simp] theorem zrk (r:Rv) (rs:List Rv):movs ρ (r::rs)=match mov ρ r with
  | some (o,ρ1)=>match movs ρ1 rs with
   | some (os,ρ2)=>some (o::os,ρ2)
   | none=>none
  | none=>none:=rfl
@[simp] theorem zuz:(0:Nat)<=sizeLine:=by decide
@[simp] theorem zup:(1:Nat)<=sizeLine:=by decide
@[simp] theorem zux:(2:Nat)<=sizeLine:=by decide
@[simp] theorem zuD:(3:Nat)<=sizeLine:=by decide
@[simp] theorem zuB:(4:Nat)<=sizeLine:=by decide
@[simp] theorem zuu:(5:Nat)<=sizeLine:=by decide
theorem zbZ {n:Nat} (h:n<=16777216):n<=sizeLine:=by rw[sizeLine_eq];exact h
theorem zd4 {n:Nat} (h:n < 16777216):n < sizeLine:=by rw[sizeLine_eq];exact h
@[simp] theorem zrA (take:Rho->List Rv->Option (List O×Rho)) (mk:List O->O) (R:AF):zay take mk R ρ=(R ρ).bind fun rs ρ1 q=>match take ρ1 rs with
 | some (os,ρ2)=>if os.length<=sizeLine then .ok (.own (mk os)) ρ2 q else .bad
 | none=>.bad:=rfl
@[simp] theorem zub:gtN i o ρ=if i < ρ.length then some (ρ.set i o) else none:=rfl
@[simp] theorem zqF:zbl [] ρ=some ρ:=rfl
@[simp] theorem zpU (G:GF) (R:List O->Rho->Option Rho) (os:List O):zah G R (o::os) ρ=match G o ρ with | some ρ1=>R os ρ1 | none=>none:=rfl
@[simp] theorem ztc (R:List O->Rho->Option Rho):gtT R o ρ=match els o with | some (false,os)=>R os ρ | _=>none:=rfl
@[simp] theorem zsv (ds:List PyData):els (.d (.list ds))=some (true,ds.map O.d):=rfl
@[simp] theorem zrc (ds:List PyData):els (.d (.tuple ds))=some (false,ds.map O.d):=rfl
@[simp] theorem zuX (os:List O):els (.l os)=some (true,os):=rfl
@[simp] theorem zuT (os:List O):els (.t os)=some (false,os):=rfl
@[simp] theorem zuk:els ⇑a=none:=rfl
@[simp] theorem zsM (b:Bool):els (.d (.bool b))=none:=rfl
@[simp] theorem zst:els (.d .none)=none:=rfl
@[simp] theorem ztw (s:Str):els (.d (.str s))=none:=rfl
@[simp] theorem zuS (s:List V):els (.q s)=none:=rfl
@[simp] theorem zcI:eIx A B ρ=(A ρ).bind fun ra ρ1 q1=>(eSc decI B ρ1).bind fun i ρ2 q2=>if pok ρ1 q2 ra then match gIx ρ2 ra i with
 | some r=>.ok r ρ2 (q1&&q2)
 | none=>.bad
 else .bad:=rfl
@[simp] theorem zuv:fAdd ⇑a ⇑b=some ⇑(a+b):=rfl
@[simp] theorem zuJ:fSub ⇑a ⇑b=some ⇑(a - b):=rfl
@[simp] theorem zur:fNeg ⇑a=some ⇑(-a):=rfl
@[simp] theorem zu1:fLt ⇑a ⇑b=some (.d (.bool (decide (a < b)))):=rfl
@[simp] theorem zu5:fLe ⇑a ⇑b=some (.d (.bool (decide (a<=b)))):=rfl
@[simp] theorem zuR:fGt ⇑a ⇑b=some (.d (.bool (decide (b < a)))):=rfl
@[simp] theorem zu3:fGe ⇑a ⇑b=some (.d (.bool (decide (b<=a)))):=rfl
theorem zgL (h1:-18446744073709551616 < b) (h2:b < 18446744073709551616):fMul ⇑a ⇑b=some ⇑(a * b):=by
 unfold fMul;exact if_pos (.inr ⟨by omega,by omega⟩)
theorem zii (h1:-18446744073709551616 < a) (h2:a < 18446744073709551616):fMul ⇑a ⇑b=some ⇑(a * b):=by
 unfold fMul;exact if_pos (.inl ⟨by omega,by omega⟩)
theorem zfb (h:0 < b):fMod ⇑a ⇑b=some ⇑(a % b):=by
 show (gC (fun _ j=>0 < j) (fun a b=>a % b) a b).map O.d=_;unfold gC;rw[if_pos h];rfl
theorem zle (h:0 < b) (h2:b < 1606938044258990275541962092341162602522202993782792835301376):fDiv ⇑a ⇑b=some ⇑(a / b):=by
 show (gC zkr (fun a b=>a / b) a b).map O.d=_;unfold gC;rw[if_pos (show zkr a b from ⟨h,by omega⟩)];rfl
theorem zks (h:0 < b) (h2:b < 1267650600228229401496703205376):fDiv ⇑a ⇑b=some ⇑(a / b):=zle h (Int.lt_trans h2 (by decide))
theorem ztv (h0:0<=b) (h1:b<=1000000) (h2:a.natAbs < 18446744073709551616):fPow ⇑a ⇑b=some ⇑(a ^ b.toNat):=by
 show (gC CPow (fun a b=>a ^ b.toNat) a b).map O.d=_;unfold gC;rw[if_pos (show CPow a b from ⟨h0,h1,by omega⟩)];rfl
@[simp] theorem zpq:zki ⇑a=some ⇑(Builtin.Int.intBits a):=rfl
@[simp] theorem ztJ:ziq ⇑a=some ⇑a:=rfl
@[simp] theorem ztn (b:Bool):ziq (.d (.bool b))=some ⇑(if b then 1 else 0):=rfl
@[simp] theorem zuF (U:String):fIsi U ⇑a=some (.d (.bool (subT "int" U))):=rfl
@[simp] theorem zuK (U:String) (b:Bool):fIsi U (.d (.bool b))=some (.d (.bool (subT "bool" U))):=rfl
@[simp] theorem zuC (U:String):fIsi U (.d .none)=some (.d (.bool (subT "NoneType" U))):=rfl
@[simp] theorem zuA (U:String) (s:Str):fIsi U (.d (.str s))=some (.d (.bool (subT "str" U))):=rfl
@[simp] theorem zsk (U:String) (s:List PyData):fIsi U (.d (.list s))=some (.d (.bool (subT "list" U))):=rfl
@[simp] theorem zsZ (U:String) (s:List PyData):fIsi U (.d (.tuple s))=some (.d (.bool (subT "tuple" U))):=rfl
@[simp] theorem zuG (U:String) (s:List O):fIsi U (.l s)=some (.d (.bool (subT "list" U))):=rfl
@[simp] theorem zuo (U:String) (s:List O):fIsi U (.t s)=some (.d (.bool (subT "tuple" U))):=rfl
@[simp] theorem ztt (A:EF) (ρ:Rho):eFz A ρ=match A ρ with
 | .ok (.own o) ρ' q=>match fz o with
  | some x=>.ok (.own (.d x)) ρ' q
  | none=>.bad
 | r=>r:=rfl
@[simp] theorem fz_d (x:PyData):fz (.d x)=some x:=by rw[fz]
@[simp] theorem zfF (xs:List PyData):fz (.l (xs.map O.d))=some (.list xs):=by rw[fz,zrb];rfl
@[simp] theorem zt5 (xs:List PyData):lds (xs.map O.d)=some xs:=zeE xs
@[simp] theorem zsN:fLen o=match els o with | some (_,os)=>some ⇑os.length | none=>zmG o:=rfl
@[simp] theorem ztH (xs:List V):zmG (.q xs)=some ⇑xs.length:=rfl
@[simp] theorem zsb (ms:List Bool) (F:FC) (R:AF):zae ms F R ρ=(R ρ).bind fun rs ρ1 q=>match pass ms rs ρ1 with
 | some (os,is,ρ2)=>match F os with
  | .bad=>.bad
  | .ok o outs=>if ms.all (fun m=>!m)&&scl o then .ok (.own o) ρ1 false else .ok (.own o) (zeA is outs ρ2) false
  | .ex c outs=>.ex c (zeA is outs ρ2)
 | none=>.bad:=rfl
@[simp] theorem zsP:pass [] [] ρ=some ([],[],ρ):=rfl
@[simp] theorem ztV (ms:List Bool) (r:Rv) (rs:List Rv):pass (false::ms) (r::rs) ρ=match coe ρ r with
  | some (o,ρ1)=>match pass ms rs ρ1 with
   | some (os,is,ρ2)=>some (o::os,is,ρ2)
   | none=>none
  | none=>none:=rfl
@[simp] theorem ztu (ms:List Bool) (rs:List Rv):pass (true::ms) (.at i []::rs) ρ=match ρ[i]? with
  | some .z=>none
  | some o=>match pass ms rs (ρ.set i .z) with
   | some (os,is,ρ2)=>some (o::os,i::is,ρ2)
   | none=>none
  | none=>none:=rfl
@[simp] theorem zrB (os:List O):zeA [] os ρ=ρ:=by unfold zeA;rfl
@[simp] theorem zpS (is:List Nat) (os:List O):zeA (i::is) (o::os) ρ=zeA is os (ρ.set i o):=rfl
@[simp] theorem zua:scl ⇑a=true:=rfl
@[simp] theorem zsK (b:Bool):scl (.d (.bool b))=true:=rfl
@[simp] theorem zsI:scl (.d .none)=true:=rfl
@[simp] theorem ztz (s:Str):scl (.d (.str s))=true:=rfl
@[simp] theorem zsF (s:List PyData):scl (.d (.list s))=false:=rfl
@[simp] theorem zs6 (s:List PyData):scl (.d (.tuple s))=false:=rfl
@[simp] theorem zuP (s:List O):scl (.l s)=false:=rfl
@[simp] theorem zuW (s:List O):scl (.t s)=false:=rfl
@[simp] theorem ztZ (ms:List Bool):zcx (true::ms) (o::ρ)=o::zcx ms ρ:=rfl
@[simp] theorem zud (ms:List Bool):zcx (false::ms) (o::ρ)=zcx ms ρ:=rfl
@[simp] theorem zqK:zcx [] ρ=[]:=by unfold zcx;rfl
@[simp] theorem zmy (ms:List Bool) (n:Nat) (S:SF) (os:List O):runF ms n S os=match S (os++List.replicate (n - os.length) .z) with
 | .nx ρ'=>.ok (.d .none) (zcx ms ρ')
 | .rt o ρ'=>.ok o (zcx ms ρ')
 | .ex c ρ'=>.ex c (zcx ms ρ')
 | _=>.bad:=rfl
@[simp] theorem zt2 (neg:Bool):fIs neg x y=if isN y&&!isZ x then some (.d (.bool (if neg then !isN x else isN x))) else none:=rfl
@[simp] theorem zsz:isN (.d .none)=true:=rfl
@[simp] theorem zs4:isN ⇑a=false:=rfl
@[simp] theorem zsU (s:List PyData):isN (.d (.list s))=false:=rfl
@[simp] theorem ztl (s:List PyData):isN (.d (.tuple s))=false:=rfl
@[simp] theorem zu0 (s:List O):isN (.l s)=false:=rfl
@[simp] theorem zuU (s:List O):isN (.t s)=false:=rfl
@[simp] theorem zu7 (s:Bool):isN (.d (.bool s))=false:=rfl
@[simp] theorem zu4 (s:Str):isN (.d (.str s))=false:=rfl
@[simp] theorem zuQ (x:PyData):isZ (.d x)=false:=rfl
@[simp] theorem zuY (s:List O):isZ (.l s)=false:=rfl
@[simp] theorem zuV (s:List O):isZ (.t s)=false:=rfl
end
section
variable {A B C:EF} {AA:AF} {ρ ρ1 ρ2 ρ3 ρ4:Rho} {r ra rb:Rv} {rs:List Rv} {q q1 q2 q3:Bool} {o x y z:O} {os outs:List O} {is:List Nat} {ms:List Bool} {F:FC} {S T U:SF} {R:Rt} {V W:TF} {b c:Bool}
theorem hide {G:Prop} (h:∀P:Prop,(G->P)->P):G:=h G id
theorem zag (h:S ρ=.nx ρ1) (k:T ρ1=R):sSeq S T ρ=R:=by unfold sSeq;rw[h];exact k
theorem zd5 (h:S ρ=.rt o ρ1):sSeq S T ρ=.rt o ρ1:=by unfold sSeq;rw[h]
theorem zao {take:Rho->Rv->Option (O×Rho)} {G:GF} (h:A ρ=.ok r ρ1 q) (ht:take ρ1 r=some (o,ρ2)) (hg:G o ρ2=some ρ3):sAsg take A G ρ=.nx ρ3:=by
 unfold sAsg;rw[h];dsimp only;rw[ht];dsimp only;rw[hg]
theorem za2 (hA:AA ρ=.ok rs ρ1 q) (hp:pass ms rs ρ1=some (os,is,ρ2)) (hF:F os=.ok o outs) (hs:(ms.all (fun m=>!m)&&scl o)=true):zae ms F AA ρ=.ok (.own o) ρ1 false:=by
 unfold zae;rw[hA];dsimp only[Re.bind];rw[hp];dsimp only;rw[hF];dsimp only;rw[if_pos hs]
theorem zas (hA:AA ρ=.ok rs ρ1 q) (hp:pass ms rs ρ1=some (os,is,ρ2)) (hF:F os=.ok o outs) (hs:(ms.all (fun m=>!m)&&scl o)=false) (hb:zeA is outs ρ2=ρ3):zae ms F AA ρ=.ok (.own o) ρ3 false:=by
 unfold zae;rw[hA];dsimp only[Re.bind];rw[hp];dsimp only;rw[hF];dsimp only;rw[if_neg (by rw[hs];simp),hb]
theorem zab (h:A ρ=.ok r ρ1 q1) (k:AA ρ1=.ok rs ρ2 q2) (p:pok ρ1 q2 r=true):zac A AA ρ=.ok (r::rs) ρ2 (q1&&q2):=by
 unfold zac;rw[h];dsimp only[Re.bind];rw[k];dsimp only[Re.bind];rw[if_pos p]
theorem zau {f:O->O->Option O} (h:A ρ=.ok ra ρ1 q1) (k:B ρ1=.ok rb ρ2 q2) (p:pok ρ1 q2 ra=true) (hx:vn ρ2 ra=some x) (hy:vn ρ2 rb=some y) (hf:f x y=some z):e2 A B f ρ=.ok (.own z) ρ2 (q1&&q2):=by
 unfold e2;rw[h];dsimp only[Re.bind];rw[k];dsimp only[Re.bind];rw[if_pos p,hx,hy];dsimp only;rw[hf]
theorem zmN {f:O->Option O} (h:A ρ=.ok ra ρ1 q1) (hx:vn ρ1 ra=some x) (hf:f x=some z):e1 A f ρ=.ok (.own z) ρ1 q1:=by
 unfold e1;rw[h];dsimp only[Re.bind];rw[hx];dsimp only;rw[hf]
theorem zfl {f:List O->Option O} (h:AA ρ=.ok rs ρ1 q1) (hx:vns ρ1 rs=some os) (hf:f os=some z):eB AA f ρ=.ok (.own z) ρ1 q1:=by
 unfold eB;rw[h];dsimp only[Re.bind];rw[hx];dsimp only;rw[hf]
theorem zax {take:Rho->List Rv->Option (List O×Rho)} {mk:List O->O} (h:AA ρ=.ok rs ρ1 q1) (ht:take ρ1 rs=some (os,ρ2)) (hl:os.length<=sizeLine) (hm:mk os=o):zay take mk AA ρ=.ok (.own o) ρ2 q1:=by
 unfold zay;rw[h];dsimp only[Re.bind];rw[ht];dsimp only;rw[if_pos hl,hm]
theorem zaD {α:Type} {dec:O->Option α} {a:α} (h:A ρ=.ok r ρ1 q) (hx:vn ρ1 r=some x) (hd:dec x=some a):eSc dec A ρ=.ok a ρ1 q:=by
 unfold eSc;rw[h];dsimp only[Re.bind];rw[hx];dsimp only;rw[hd]
theorem za6 {i:Int} (h:A ρ=.ok ra ρ1 q1) (k:eSc decI B ρ1=.ok i ρ2 q2) (p:pok ρ1 q2 ra=true) (g:gIx ρ2 ra i=some r):eIx A B ρ=.ok r ρ2 (q1&&q2):=by
 unfold eIx;rw[h];dsimp only[Re.bind];rw[k];dsimp only[Re.bind];rw[if_pos p,g]
theorem zaR (h:A ρ=.ok r ρ1 q) (hv:vn ρ1 r=some (.d (.bool b))):tst A ρ=.ok b ρ1 q:=by
 unfold tst;rw[h];dsimp only;rw[hv]
theorem zcg {α β:Type} {G:Rho->Re α} {H:α->Rho->Re β} {a:α} {d:β} (h:G ρ=.ok a ρ1 q1) (k:H a ρ1=.ok d ρ2 q2):zb5 G H ρ=.ok d ρ2 (q1&&q2):=by
 unfold zb5;rw[h];dsimp only[Re.bind];rw[k]
theorem zk8 (h:V ρ=.ok true ρ1 q):gNot V ρ=.ok false ρ1 (q&&true):=zcg h rfl
theorem or_f (h:V ρ=.ok false ρ1 q1) (k:W ρ1=.ok c ρ2 q2):gOr V W ρ=.ok c ρ2 (q1&&q2):=zcg h k
theorem or_t (h:V ρ=.ok true ρ1 q1):gOr V W ρ=.ok true ρ1 (q1&&true):=zcg h rfl
theorem zpk (h:V ρ=.ok true ρ1 q1) (k:W ρ1=.ok c ρ2 q2):gAnd V W ρ=.ok c ρ2 (q1&&q2):=zcg h k
theorem if_f (h:V ρ=.ok false ρ1 q) (k:T ρ1=R):sIf V S T ρ=R:=by unfold sIf;rw[h];exact k
theorem if_t (h:V ρ=.ok true ρ1 q) (k:S ρ1=R):sIf V S T ρ=R:=by unfold sIf;rw[h];exact k
theorem zaS {take:Rho->Rv->Option (O×Rho)} (h:A ρ=.ok r ρ1 q) (ht:take ρ1 r=some (o,ρ2)):sRet take A ρ=.rt o ρ2:=by
 unfold sRet;rw[h];dsimp only;rw[ht]
theorem zaW (h:A ρ=.ok r ρ1 q):za3 A ρ=.nx ρ1:=by unfold za3;rw[h]
theorem znL (h:V ρ=.ok b ρ1 q):eOfB V ρ=.ok (.own (.d (.bool b))) ρ1 q:=by unfold eOfB;rw[h];rfl
theorem zdZ (h:C ρ=.ok ra ρ1 q1) (l:isL ρ1 ra=true) (k:A ρ1=.ok rb ρ2 q2) (p:pok ρ1 q2 ra=true) (ht:coe ρ2 rb=some (o,ρ3)) (hp:zdG ρ3 ra (fun os=>if os.length < sizeLine then some (os++[o]) else none)=some ρ4):eApp C A ρ=.ok (.own (.d .none)) ρ4 false:=by
 unfold eApp;rw[h];dsimp only[Re.bind];rw[if_pos l,k];dsimp only[Re.bind];rw[if_pos p,ht];dsimp only;rw[hp]
theorem zgp {I:Rho->Re (List O)} {G:GF} {items:List O} (h:I ρ=.ok items ρ1 q) (k:forF G S items ρ1=R):sFor I G S ρ=R:=by unfold sFor;rw[h];exact k
theorem zfx {j:Int} {n:Nat} (h:eSc decI A ρ=.ok j ρ1 q) (ok:okR j=true) (hn:j.toNat=n):itR1 A ρ=.ok (rngO 0 n) ρ1 q:=by unfold itR1;rw[h];dsimp only[Re.bind];rw[if_pos ok,hn]
theorem zmP {I:Rho->Re (List O)} {js:List (Option Nat)} {G:GF} {items:List O} (h:I ρ=.ok items ρ1 q1) (hl:items.length<=sizeLine) (k:lcF js G V A items ρ1 [] true=.ok os ρ2 q2):eLC I js G V A ρ=.ok (.own (.l os)) ρ2 (q1&&q2):=by
 unfold eLC;rw[h];dsimp only;rw[if_pos hl,k]
theorem zfD {i:Nat} {xs:List O} {d:PyData} (h:ρ[i]? = some (.l xs)) (f:fz (.l xs)=some d):coe ρ (.at i [])=some (.d d,ρ.set i (.d d)):=by simp[coe,h,sub,f]
theorem zbE (h:coe ρ r=some (o,ρ1)) (k:pass ms rs ρ1=some (os,is,ρ2)):pass (false::ms) (r::rs) ρ=some (o::os,is,ρ2):=by unfold pass;rw[h];dsimp only;rw[k]
theorem znA (h:coe ρ r=some (o,ρ1)) (k:coes ρ1 rs=some (os,ρ2)):coes ρ (r::rs)=some (o::os,ρ2):=by unfold coes;rw[h];dsimp only;rw[k]
theorem zbn {n:Nat} {ρ0:Rho} (h0:os++List.replicate (n - os.length) .z=ρ0) (h:S ρ0=.rt o ρ1) (hl:zcx ms ρ1=outs):runF ms n S os=.ok o outs:=by
 unfold runF;rw[h0,h];dsimp only;rw[hl]
theorem zk6 {n:Nat} {i:Int} (h0:0<=i) (h1:i < n):ixN n i=some i.toNat:=by unfold ixN;rw[if_pos h0,if_pos h1]
theorem zg7 {xs:List O} {k:Nat} {i:Int} {d:PyData} (hj:xs[i.toNat]? = some (.d d)) (h0:0<=i) (h1:i < xs.length) (hk:ρ[k]? = some (.l xs)):gIx ρ (.at k []) i=some (.own (.d d)):=by
 unfold gIx;simp[nz,vn,vw,hk,sub,els,zk6 h0 h1,hj,zeD]
theorem zjk {xs:List O} {i:Int} {d:PyData} (hj:xs[i.toNat]? = some (.d d)) (h0:0<=i) (h1:i < xs.length):gIx ρ (.own (.l xs)) i=some (.own (.d d)):=by
 unfold gIx;simp[nz,vn,vw,els,zk6 h0 h1,hj,zeD]
theorem zbQ {xs:List O} {k:Nat} (hk:ρ[k]? = some (.l xs)) (hl:xs.length < sizeLine):zdG ρ (.at k []) (fun os=>if os.length < sizeLine then some (os++[o]) else none)=some (ρ.set k (.l (xs++[o]))):=by
 unfold zdG;simp[hk,sub,put,hl]
theorem znM {n:Nat} {ρ0:Rho} (h0:os++List.replicate (n - os.length) .z=ρ0) (h:S ρ0=.nx ρ1) (hl:zcx ms ρ1=outs):runF ms n S os=.ok (.d .none) outs:=by
 unfold runF;rw[h0,h];dsimp only;rw[hl]
end
end L2
namespace L2
open PySem PySem.Spec PyProof.Rows
section
variable {mg:Str->Option Value} {K:PySem.W.Frag} {H H':Hp} {W W':Addr->Prop}
theorem Ows.lend:∀{vs:List V} {os:List O} {As:List Addr} {k:Nat} {o:O},Ows mg K H W vs os As->os[k]? = some o->∃w A Bs,vs[k]? = some w/\Ow mg K H W w o A/\Ows mg K H W vs (os.set k .z) Bs/\(A++Bs).Perm As
 | _,_,_,_,_,.nil,e=>by simp at e
 | _,_,_,0,_,.cons (A:=A) (B:=D) a b,e=>by
  simp at e;subst e;exact ⟨_,A,D,rfl,a,.cons (A:=[]) (.z _) b,List.Perm.refl _⟩
 | _,_,_,k+1,o,.cons (A:=A0) (B:=D) a b,e=>by
  obtain ⟨w,A,Bs,h1,h2,h3,h4⟩:=Ows.lend (k:=k) b (by simpa using e);refine ⟨w,A,A0++Bs,by simpa using h1,h2,by simpa using Ows.cons a h3, ?_⟩;rw[<-List.append_assoc];exact ((List.perm_append_comm (l₁:=A) (l₂:=A0)).append_right Bs).trans (by rw[List.append_assoc];exact h4.append_left A0)
end
section
variable {mg:Str->Option Value} {K:PySem.W.Frag} {E:XK} {L:List Nat}
end
section
variable {X:Cx} {E:XK} {L:List Nat}
end
section
variable {X:Cx}
end
def sBad:SF:=fun _=>.bad
section
variable {X:Cx} {E:XK} {L:List Nat}
theorem zeN {st:Stmt}:VS X E L st sBad:=fun _ _ _ _ _ _ h=>by
 obtain ⟨_,_,_,_,q⟩:=h;exact False.elim q
end
end L2
noncomputable section
namespace My
open PySem L2
def zeY:SF:=(sSeq (sIf (tst (e2 (zaa 1) (eB (zac (zaa 0) aNil) (f1 fLen)) fLt)) (sRet mov (eIx (zaa 0) (zaa 1))) sNil)
  (sRet mov ↥0))
def zc5:FC:=runF [false,false] 2 zeY
def zdV:SF:=(sSeq (sAsg coe (zae [false,false] zc5 (zac (zaa 0) (zac (zaa 1) aNil))) (gtN 2))
  (sRet coe (zay coes .l (zac (eB (zac (e2 (zaa 2) (e2 ↥10 ↥18 fPow) fSub) (zac ↥0 aNil)) (f2I fun i j=>if j > i then j else i)) (zac (e2 (zaa 2) ↥2147483647 fMod) (zac (e2 ↥1000 (zaa 1) fMul) aNil))))))
def zbN:FC:=runF [false,false] 3 zdV
def zdX:SF:=(sSeq (sAsg coe (e2 (e2 (e2 (e2 (e2 (zaa 0) ↥1103515245 fMul) (e2 (e2 ↥7919 (zaa 1) fMul) (zaa 1) fMul) fAdd) (zaa 1) fAdd) ↥1 fAdd) ↥2147483647 fMod) (gtN 2))
  (sSeq (sAsg coe (e2 (e2 (e2 (zaa 2) (zaa 2) fMul) ↥69621 fAdd) ↥2147483629 fMod) (gtN 2))
  (sRet mov (e2 (e2 (zaa 2) ↥48271 fMul) ↥2147483587 fMod))))
def zck:FC:=runF [false,false] 3 zdX
def zca:SF:=(sSeq (sSub coe (e2 (eIx (zaa 0) ↥2) ↥1 fAdd) (zaa 0) ↥2)
  (sAsg coe (e2 (e2 (zaa 3) ↥2147483587 fMul) (zae [false,false] zck (zac (eIx (zaa 0) ↥1) (zac (eIx (zaa 0) ↥2) aNil))) fAdd) (gtN 3)))
def zeb:SF:=(sSeq (sIf (tst (e2 (eIx (zaa 0) ↥0) ↥0 fGt)) (sSeq (sAsg coe (e2 (eIx (zaa 0) ↥0) (zaa 1) fMod) (gtN 2))
  (sSeq (sSub coe (e2 (eIx (zaa 0) ↥0) (zaa 1) fDiv) (zaa 0) ↥0)
  (sRet mov (zaa 2)))) sNil)
  (sSeq (sAsg coe ↥0 (gtN 3))
  (sSeq (sFor (itR1 (e2 ↥1 (e2 (e1 (zaa 1) zki) ↥30 fDiv) fAdd)) (gtN 4) zca)
  (sRet mov (e2 (zaa 3) (zaa 1) fMod)))))
def zaj:FC:=runF [true,false] 5 zeb
def zdF:SF:=(sSeq (sAsg coe (eIx (zay coes .l (zac ↥1 (zac ↥4 (zac ↥30 (zac (zaa 1) aNil))))) (zae [true,false] zaj (zac (zaa 0) (zac ↥4 aNil)))) (gtN 2))
  (sRet coe (e2 (zae [true,false] zaj (zac (zaa 0) (zac (e2 (e2 ↥2 (zaa 2) fMul) ↥1 fAdd) aNil))) (zaa 2) fSub)))
def zcb:FC:=runF [true,false] 3 zdF
def zbR:EF:=(zae [true,false] zcb (zac (zaa 1) (zac (e2 ↥10 ↥8 fPow) aNil)))
def zcl:SF:=(sSeq (sAsg coe (zae [true,false] zaj (zac (zaa 0) (zac (zaa 3) aNil))) (gtN 7))
  (sSeq (sAsg coe (zae [true,false] zaj (zac (zaa 0) (zac (zaa 3) aNil))) (gtN 8))
  (sSeq (sAsg coe (eIx (zay coes .l (zac ↥0 (zac ↥0 (zac (zae [true,false] zaj (zac (zaa 0) (zac ↥4 aNil))) (zac (zae [true,false] zaj (zac (zaa 0) (zac (e2 ↥10 ↥8 fPow) aNil))) aNil))))) (zae [true,false] zaj (zac (zaa 0) (zac ↥4 aNil)))) (gtN 9))
  (sSeq (za3 (eApp (zaa 5) (zay coes mkT (zac (zaa 7) (zac (zaa 8) (zac (e2 (e2 (eIx (zaa 4) (zaa 8)) (eIx (zaa 4) (zaa 7)) fSub) (zaa 9) fAdd) aNil))))))
  (sIf (tst (e2 (zae [true,false] zaj (zac (zaa 0) (zac ↥8 aNil))) ↥0 (fEq false))) (za3 (eApp (zaa 5) (eIx (zaa 5) (zae [true,false] zaj (zac (zaa 0) (zac (eB (zac (zaa 5) aNil) (f1 fLen)) aNil)))))) sNil)))))
def zev:SF:=(sSeq (sAsg coe (zae [true,false] zaj (zac (zaa 0) (zac (e2 (zaa 1) ↥1 fAdd) aNil))) (gtN 3))
  (sSeq (sAsg coe (eLC (itR1 (zaa 3)) [none,some 0] (gtN 0) (gRet true) zbR) (gtN 4))
  (sSeq (sAsg coe (zay coes .l aNil) (gtN 5))
  (sSeq (sFor (itR1 (e2 (zae [true,false] zaj (zac (zaa 0) (zac (e2 (zaa 2) ↥1 fAdd) aNil))) (eB (zac (e2 (zaa 3) ↥0 fGt) aNil) (f1 ziq)) fMul)) (gtN 6) zcl)
  (sRet mov (zay movs mkT (zac (zaa 3) (zac (zaa 5) aNil))))))))
def zcj:FC:=runF [true,false,false] 10 zev
def zed:SF:=(sRet mov (eOfB (zdM ↥0 (zaa 1) (zaa 0) (fun i j=>decide (i<=j)) (fun i j=>decide (i < j)))))
def zbC:FC:=runF [false,false] 2 zed
def zes:SF:=(sSeq (sAsg coe (zaa 1) (gtT (zah (gtN 2) (zah (gtN 3) (zah (gtN 4) zbl)))))
  (sRet coe (eAnd (zae [false,false] zbC (zac (zaa 0) (zac (zaa 2) aNil))) (eAnd (zae [false,false] zbC (zac (zaa 0) (zac (zaa 3) aNil))) (eOfB (zdM (e1 ↥(1000000000) fNeg) (zaa 4) ↥(1000000000) (fun i j=>decide (i<=j)) (fun i j=>decide (i<=j))))))))
def zcL:FC:=runF [false,false] 5 zes
def zcC:SF:=(sIf (gNot (eSc trV (zae [false,false] zcL (zac (zaa 1) (zac (zaa 4) aNil))))) sBad sNil)
def zdW:SF:=(sSeq (sAsg coe (zaa 0) (gtT (zah (gtN 1) (zah (gtN 2) zbl))))
  (sSeq (sIf (gNot (zdM ↥0 (zaa 1) ↥(20) (fun i j=>decide (i<=j)) (fun i j=>decide (i<=j)))) sBad sNil)
  (sSeq (sIf (tst (e2 (eB (zac (zaa 2) aNil) (f1 fLen)) ↥(60) fGt)) sBad sNil)
  (sFor (itE (zaa 2)) (gtT (zah (gtN 3) (zah (gtN 4) zbl))) zcC))))
def zbf:FC:=runF [false] 5 zdW
def zdl:SF:=(sIf (gNot (eSc trV (zae [false,false] zbC (zac (eIx (zaa 0) ↥0) (zac (zaa 1) aNil))))) sBad sNil)
def zbe:FC:=runF [false,false] 2 zdl
def zcR:SF:=(sSeq (za3 (zae [false] zbf (zac (zaa 0) aNil)))
  (sSeq (za3 (zae [false,false] zbe (zac (zaa 0) (zac (zaa 1) aNil))))
  (za3 (zae [false,false] zbe (zac (zaa 0) (zac (zaa 2) aNil))))))
def zap:FC:=runF [false,false,false] 3 zcR
def zbJ:SF:=(sIf (tst (e2 (e2 (eIx (zaa 1) (zaa 5)) (zaa 7) fAdd) (eIx (zaa 1) (zaa 6)) fLt)) (sSeq (sSub coe (e2 (eIx (zaa 1) (zaa 5)) (zaa 7) fAdd) (zaa 1) (zaa 6))
  (sSeq (sSub coe (zaa 4) (zaa 2) (zaa 6))
  (sAsg coe (zaa 6) (gtN 3)))) sNil)
def zdJ:SF:=(sSeq (sAsg coe (eC .none) (gtN 3))
  (sSeq (sFor (itE (zaa 0)) (gtT (zah (gtN 4) (zah (gtT (zah (gtN 5) (zah (gtN 6) (zah (gtN 7) zbl)))) zbl))) zbJ)
  (sRet mov (zaa 3))))
def zb2:FC:=runF [false,true,true] 8 zdJ
def zcP:SF:=(sSeq (sAsg coe (zae [false,true,true] zb2 (zac (zaa 3) (zac (zaa 4) (zac (zaa 5) aNil)))) (gtN 6))
  (sIf (tst (e2 (zaa 6) (eC .none) (fIs false))) sBrk sNil))
def zd6:SF:=(sSeq (sAsg coe (zaa 0) (gtT (zah (gtN 2) (zah (gtN 3) zbl))))
  (sSeq (sAsg coe (eB (zac (zaa 1) aNil) (f1 zgy)) (gtN 4))
  (sSeq (sAsg coe (e2 (zay coes .l (zac (eC .none) aNil)) (zaa 2) fMul) (gtN 5))
  (sSeq (sAsg coe (eC .none) (gtN 6))
  (sSeq (sFor (itR1 (zaa 2)) (gtN 7) zcP)
  (sRet mov (zay movs mkT (zac (zaa 4) (zac (zaa 5) (zac (zaa 6) aNil))))))))))
def zb1:FC:=runF [false,false] 8 zd6
def zdN:SF:=(sSeq (sAsg coe (zae [false,false] zb1 (zac (zaa 0) (zac (e2 (zay coes .l (zac ↥0 aNil)) (eIx (zaa 0) ↥0) fMul) aNil))) (gtT (zah (gtN 1) (zah (gtN 2) (zah (gtN 3) zbl)))))
  (sIf (tst (e2 (zaa 3) (eC .none) (fIs true))) sBad sNil))
def zaT:FC:=runF [false] 4 zdN
def zdI:SF:=(sSeq (sAsg coe (e2 (zay coes .l (zac ↥(40000000000) aNil)) (eIx (zaa 0) ↥0) fMul) (gtN 2))
  (sSeq (sSub coe ↥0 (zaa 2) (zaa 1))
  (sSeq (sAsg coe (zae [false,false] zb1 (zac (zaa 0) (zac (zaa 2) aNil))) (gtT (zah (gtN 3) (zah (gtN 4) (zah (gtN 5) zbl)))))
  (sRet mov (zay movs mkT (zac (zaa 3) (zac (zaa 4) aNil)))))))
def zbD:FC:=runF [false,false] 6 zdI
def zbk:SF:=(sIf (gAnd (tst (e2 (zaa 4) (eIx (zaa 2) (zaa 3)) (fEq false))) (tst (e2 (zaa 5) (zaa 2) (fIn true)))) (za3 (eApp (zaa 2) (zaa 5))) sNil)
def zbj:TF:=(tst (e2 (zaa 3) (eB (zac (zaa 2) aNil) (f1 fLen)) fLt))
def zbi:SF:=(sSeq (zg1 (srcM false (fun ds=>ds.map O.d) (eIx (zaa 0) ↥1)) (gtT (zah (gtN 4) (zah (gtN 5) (zah (gtN 6) zbl)))) zbk)
  (sAug 3 ↥1 (fun i j=>i+j)))
def zcY:SF:=(sSeq (sAsg coe (zay coes .l (zac (zaa 1) aNil)) (gtN 2))
  (sSeq (sAsg coe ↥0 (gtN 3))
  (sSeq (zdz zbj zbi)
  (sRet mov (eB (zac (zaa 2) aNil) (f1 zf6))))))
def zaY:FC:=runF [false,false] 7 zcY
def zb0:EF:=(eIf (tst (e2 (zaa 0) (zaa 1) (fIn false))) (eIx (zaa 2) (zaa 0)) (eC .none))
def zdb:SF:=(sSeq (sAsg coe (zae [false,false] zbD (zac (zaa 0) (zac (zaa 1) aNil))) (gtT (zah (gtN 2) (zah (gtN 3) zbl))))
  (sSeq (sAsg coe (zae [false,false] zaY (zac (zaa 0) (zac (zaa 1) aNil))) (gtN 4))
  (sRet coe (eLC (itR1 (eIx (zaa 0) ↥0)) [none,some 4,some 2] (gtN 0) (gRet true) zb0))))
def zaO:FC:=runF [false,false] 5 zdb
def zeK:SF:=(sSeq (za3 (zae [false,false,false] zap (zac (zaa 0) (zac (zaa 1) (zac (zaa 2) aNil)))))
  (sSeq (za3 (zae [false] zaT (zac (zaa 0) aNil)))
  (sSeq (sAsg coe (eIx (zae [false,false] zaO (zac (zaa 0) (zac (zaa 1) aNil))) (zaa 2)) (gtN 3))
  (sSeq (sAsg coe (eIx (zae [false,false] zaO (zac (zaa 0) (zac (zaa 2) aNil))) (zaa 1)) (gtN 4))
  (sRet coe (zay coes mkT (zac (eIf (tst (e2 (zaa 4) (eC .none) (fIs false))) (eC .none) (e1 (zaa 4) fNeg)) (zac (zaa 3) aNil))))))))
def zaF:FC:=runF [false,false,false] 5 zeK
def zbB:TF:=(tst (e2 (eIx (eIx (zaa 4) (eIx (zaa 5) ↥(-1))) ↥0) (zaa 2) (fEq true)))
def zb7:SF:=(za3 (eApp (zaa 5) (eIx (zaa 1) (eIx (eIx (zaa 4) (eIx (zaa 5) ↥(-1))) ↥0))))
def zde:SF:=(sSeq (sAsg coe (eIx (zaa 0) ↥1) (gtN 4))
  (sSeq (sAsg coe (zay coes .l (zac (eIx (zaa 1) (zaa 3)) aNil)) (gtN 5))
  (sSeq (zdz zbB zb7)
  (sRet mov (e1 (zaa 5) fRev)))))
def zcF:FC:=runF [false,false,false,false] 6 zde
end My
end
namespace My
open PySem L2
abbrev Road:=Int×Int×Int
def zar (r:Road):PyData:=.tuple [.int r.1,.int r.2.1,.int r.2.2]
def zan (rs:List Road):PyData:=.list (rs.map zar)
def netD (n:Int) (rs:List Road):PyData:=.tuple [.int n,zan rs]
def zal (ns:List Int):PyData:=.list (ns.map .int)
def znK (n:Int) (r:Road):Prop:=(0<=r.1/\r.1 < n)/\(0<=r.2.1/\r.2.1 < n)/\(-1000000000<=r.2.2/\r.2.2<=1000000000)
structure zaw (n:Int) (rs:List Road):Prop where
 n0:0<=n
 n1:n<=20
 len:rs.length<=60
 rd:∀r∈rs,znK n r
def zaK (rs:List Road) (k:Int):Option Road:=if 0<=k/\k < rs.length then rs[k.toNat]? else none
theorem za9 {rs:List Road} {k:Int} {r:Road} (h:zaK rs k=some r):0<=k/\k < rs.length/\rs[k.toNat]? = some r:=by
 unfold zaK at h;split at h
 .rename_i hk;exact ⟨hk.1,hk.2,h⟩
 .cases h
theorem zeL {rs:List Road} {k:Int} (h0:0<=k) (h1:k < rs.length):∃r,zaK rs k=some r/\rs[k.toNat]? = some r:=by
 have hk:k.toNat < rs.length:=by omega
 refine ⟨rs[k.toNat], ?_,by simp[hk]⟩;unfold zaK;rw[if_pos ⟨h0,h1⟩];simp[hk]
theorem zbz {rs:List Road} {k:Int} {r:Road} (h:zaK rs k=some r):r∈rs:=List.mem_of_getElem? (za9 h).2.2
def zaZ (rs:List Road):Int->Int->List Int->Bool
 | p,q,[]=>decide (p=q)
 | p,q,k::ws=>match zaK rs k with
  | some r=>if r.1=p then zaZ rs r.2.1 q ws else false
  | none=>false
def zgc (rs:List Road) (k:Int):Int:=match zaK rs k with
 | some r=>r.2.2
 | none=>0
def zaI (rs:List Road) (ws:List Int):Int:=(ws.map (zgc rs)).sum
def zj2 (rs:List Road) (ws:List Int):Prop:=∀k∈ws,0<=k/\k < rs.length
theorem zem {rs:List Road}:∀{ws:List Int} {p q:Int},zaZ rs p q ws=true->zj2 rs ws
 | [],_,_,_=>fun _ h=>by simp at h
 | k::ws,p,q,h=>by
  unfold zaZ at h
  cases e:zaK rs k with
  | none=>rw[e] at h;cases h
  | some r=>
   rw[e] at h;simp only at h;split at h
   .intro j hj;rcases List.mem_cons.mp hj with rfl | hj
    .exact ⟨(za9 e).1,(za9 e).2.1⟩
    .exact zem h j hj
   .cases h
end My
namespace L2
end L2
namespace My
open PySem L2
end My
namespace L2
end L2
namespace My
open PySem L2 PySem.SeqAt
mutual
theorem zdo:∀d:PyData,d.canLay0=true->PyData.eqv d d=true
 | .none,_=>rfl
 | .bool b,_=>by simp[PyData.eqv]
 | .int i,_=>by simp[PyData.eqv]
 | .str x,_=>by simp[PyData.eqv]
 | .list xs,h=>by
  simp only[PyData.eqv];exact zez xs (by simpa [PyData.canLay0] using h)
 | .tuple xs,h=>by
  simp only[PyData.eqv];exact zez xs (by simpa [PyData.canLay0] using h)
 | .dict _,h=>by simp[PyData.canLay0] at h
theorem zez:∀ds:List PyData,PyData.canLayAll0 ds=true->PyData.eqvAll ds ds=true
 | [],_=>rfl
 | d::ds,h=>by
  simp only[PyData.canLayAll0,Bool.and_eq_true] at h;simp only[PyData.eqvAll,Bool.and_eq_true];exact ⟨zdo d h.1,zez ds h.2⟩
end
theorem zps (ds:List PyData):PyData.eqv (.list ds) (.list [])=ds.isEmpty:=by
 cases ds<;>simp[PyData.eqv,PyData.eqvAll]
def Lay (n:Nat) (d:PyData):Prop:=d.canLay0=true/\d.depth<=n
theorem Lay.shaped {n:Nat} {d:PyData} (h:Lay n d) (hn:n<=64:=by decide):shaped d=true:=by
 unfold SeqAt.shaped;rw[h.1,Bool.true_and];exact decide_eq_true (Nat.le_trans h.2 hn)
theorem Lay.int (i:Int):Lay 0 (.int i):=⟨rfl,Nat.le_refl _⟩
theorem Lay.none:Lay 0 .none:=⟨rfl,Nat.le_refl _⟩
theorem Lay.mono {n m:Nat} {d:PyData} (h:Lay n d) (hm:n<=m):Lay m d:=⟨h.1,Nat.le_trans h.2 hm⟩
theorem ziy {n:Nat}:∀{ds:List PyData},(∀d∈ds,Lay n d)->PyData.canLayAll0 ds=true/\PyData.depthAll ds<=n
 | [],_=>⟨rfl,Nat.zero_le _⟩
 | d::ds,h=>by
  have h1:=h d List.mem_cons_self;have h2:=ziy fun e he=>h e (List.mem_cons_of_mem _ he)
  refine ⟨by simp[PyData.canLayAll0,h1.1,h2.1], ?_⟩;have a1:=h1.2;have a2:=h2.2;simp only[PyData.depthAll];omega
theorem Lay.list {n:Nat} {ds:List PyData} (h:∀d∈ds,Lay n d):Lay (n+1) (.list ds):=by
 have q:=ziy h;refine ⟨by simp[PyData.canLay0,q.1], ?_⟩
 have:=q.2
 simp only[PyData.depth];omega
theorem Lay.tuple {n:Nat} {ds:List PyData} (h:∀d∈ds,Lay n d):Lay (n+1) (.tuple ds):=by
 have q:=ziy h;refine ⟨by simp[PyData.canLay0,q.1], ?_⟩
 have:=q.2
 simp only[PyData.depth];omega
theorem Lay.ints (ns:List Int):Lay 1 (zal ns):=Lay.list fun d hd=>by
 obtain ⟨i,_,rfl⟩:=List.mem_map.mp hd;exact Lay.int i
end My
namespace My
open PySem L2
def zqs (n B:Int) (r:Road):Prop:=(0<=r.1/\r.1 < n)/\(0<=r.2.1/\r.2.1 < n)/\(-B<=r.2.2/\r.2.2<=B)
structure NetB (n B:Int) (most many:Nat) (rs:List Road):Prop where
 n0:0<=n
 n1:n<=most
 len:rs.length<=many
 rd:∀r∈rs,zqs n B r
abbrev Tab:=List (List (Option Int))
def optD:Option Int->PyData
 | none=>.none
 | some i=>.int i
def rowD (r:List (Option Int)):PyData:=.list (r.map optD)
def tabD (t:Tab):PyData:=.list (t.map rowD)
structure Shape (n:Nat) (t:Tab):Prop where
 len:t.length=n
 row:∀r∈t,r.length=n
def cell (t:Tab) (i j:Nat):Option Int:=((t[i]?.getD [])[j]?).getD none
theorem Shape.at {n:Nat} {t:Tab} (h:Shape n t) {i j:Nat} (hi:i < n) (hj:j < n):∃r,t[i]? = some r/\r[j]? = some (cell t i j)/\r∈t:=by
 have hi':i < t.length:=by rw[h.len];exact hi
 refine ⟨t[i],by simp[hi'], ?_,List.getElem_mem hi'⟩;have hj':j < t[i].length:=by rw[h.row _ (List.getElem_mem hi')];exact hj
 unfold cell;simp[hi',hj']
theorem zdY {α:Type} (f:α->Nat->α) (a:α) (k:Nat):(List.range (k+1)).foldl f a=f ((List.range k).foldl f a) k:=by
 rw[List.range_succ,List.foldl_append];rfl
inductive Wk (rs:List Road):Int->Int->Int->Prop where
 | nil (p:Int):Wk rs p p 0
 | cons {r:Road} {q L:Int}:r∈rs->Wk rs r.2.1 q L->Wk rs r.1 q (r.2.2+L)
theorem Wk.cast {rs:List Road} {p q L M:Int} (h:Wk rs p q L) (e:L=M):Wk rs p q M:=e ▸ h
theorem Wk.trans {rs:List Road} {p q s L M:Int} (h:Wk rs p q L) (g:Wk rs q s M):Wk rs p s (L+M):=by
 induction h with
 | nil p=>exact g.cast ∅
 | cons hr _ ih=>exact (Wk.cons hr (ih g)).cast ∅
theorem Wk.one {rs:List Road} {r:Road} (h:r∈rs):Wk rs r.1 r.2.1 r.2.2:=(Wk.cons h (.nil _)).cast ∅
theorem Wk.sub {rs rs':List Road} (hs:∀r∈rs,r∈rs') {p q L:Int} (h:Wk rs p q L):Wk rs' p q L:=by
 induction h with
 | nil p=>exact .nil p
 | cons hr _ ih=>exact .cons (hs _ hr) ih
def Taut (rs:List Road):Prop:=∀p L,Wk rs p p L->0<=L
def Pot (rs:List Road) (h:Int->Int):Prop:=∀r∈rs,h r.2.1<=h r.1+r.2.2
theorem Pot.wk {rs:List Road} {h:Int->Int} (P:Pot rs h) {p q L:Int} (w:Wk rs p q L):h q<=h p+L:=by
 induction w with
 | nil p=>omega
 | cons hr _ ih=>have:=P _ hr;omega
theorem Pot.taut {rs:List Road} {h:Int->Int} (P:Pot rs h):Taut rs:=fun p L w=>by have:=P.wk w;omega
theorem Wk.end_in {rs:List Road} {n:Int} (ok:∀r∈rs,(0<=r.1/\r.1 < n)/\(0<=r.2.1/\r.2.1 < n)) {p q L:Int} (h:Wk rs p q L) (hp:0<=p/\p < n):0<=q/\q < n:=by
 induction h with
 | nil p=>exact hp
 | cons hr _ ih=>exact ih (ok _ hr).2
def Dist (rs:List Road) (p q d:Int):Prop:=Wk rs p q d/\∀L,Wk rs p q L->d<=L
theorem zdk {rs:List Road} {k:Int} {r:Road} (h:zaK rs k=some r):zgc rs k=r.2.2:=by unfold zgc;rw[h]
theorem zct (rs:List Road) (k:Int) (ws:List Int):zaI rs (k::ws)=zgc rs k+zaI rs ws:=by unfold zaI;simp
theorem zfi (rs:List Road) (a b:List Int):zaI rs (a++b)=zaI rs a+zaI rs b:=by unfold zaI;simp
theorem zel {rs:List Road}:∀{ws:List Int} {p q:Int},zaZ rs p q ws=true->Wk rs p q (zaI rs ws)
 | [],p,q,h=>by
  have:p=q:=by simpa [zaZ] using h
  subst this;exact .nil p
 | k::ws,p,q,h=>by
  unfold zaZ at h
  cases e:zaK rs k with
  | none=>rw[e] at h;cases h
  | some r=>
   rw[e] at h;simp only at h;split at h
   .rename_i hp;subst hp;rw[zct,zdk e];exact .cons (zbz e) (zel h)
   .cases h
def up1 {α:Type} (h:Int->α) (v:Int) (a:α):Int->α:=fun x=>if x=v then a else h x
theorem zc4 {α:Type} (h:Int->α) (v:Int) (a:α):up1 h v a v=a:=if_pos rfl
theorem zcU {α:Type} (h:Int->α) {v x:Int} (a:α) (hx:x≠v):up1 h v a x=h x:=if_neg hx
structure Bf where
 h:Int->Int
 e:Int->Option Int
 l:Option Int
def zh4 (rs:List Road) (b:Bf) (k:Nat):Bf:=match rs[k]? with
 | some r=>if b.h r.1+r.2.2 < b.h r.2.1 then ⟨up1 b.h r.2.1 (b.h r.1+r.2.2),up1 b.e r.2.1 (some (k:Int)),some r.2.1⟩ else b
 | none=>b
def bfTo (rs:List Road) (b:Bf) (k:Nat):Bf:=(List.range k).foldl (zh4 rs) { b with l:=none }
def zbt (rs:List Road) (b:Bf):Bf:=bfTo rs b rs.length
def zcQ (rs:List Road):Nat->Bf->Bf
 | 0,b=>b
 | k+1,b=>if (zbt rs b).l=none then zbt rs b else zcQ rs k (zbt rs b)
def zaE (n:Nat) (rs:List Road) (s:Int->Int):Bf:=zcQ rs n ⟨s,fun _=>none,none⟩
def Bk (rs:List Road) (e:Int->Option Int):Int->Int->List Int->Prop
 | x,y,[]=>x=y
 | x,y,k::ws=>e x=some k/\∃r,zaK rs k=some r/\Bk rs e r.1 y ws
structure BI (rs:List Road) (s h:Int->Int) (e:Int->Option Int):Prop where
 snd:∀v,∃u L,Wk rs u v L/\h v=s u+L
 ent:∀v k,e v=some k->∃r,zaK rs k=some r/\r.2.1=v/\h r.1+r.2.2<=h v/\h v < s v
 non:∀v,e v=none->h v=s v
 neg:∀x ws,ws≠[]->Bk rs e x x ws->zaI rs ws < 0
theorem ze9 {rs:List Road} {k:Nat} {r:Road} (h:rs[k]? = some r):zaK rs (k:Int)=some r:=by
 have hk:=(List.getElem?_eq_some_iff.mp h).1;unfold zaK;rw[if_pos ⟨by omega,by omega⟩,Int.toNat_natCast,h]
theorem BI.start (rs:List Road) (s:Int->Int):BI rs s s (fun _=>none) where
 snd:=fun v=>⟨v,0,.nil v,by omega⟩
 ent:=fun v k h=>by cases h
 non:=fun v _=>rfl
 neg:=fun x ws hw h=>by
  cases ws with
  | nil=>exact absurd rfl hw
  | cons k ws=>cases h.1
theorem BI.tele {rs:List Road} {s h:Int->Int} {e:Int->Option Int} (B:BI rs s h e):∀{ws:List Int} {x y:Int},Bk rs e x y ws->h y+zaI rs ws<=h x
 | [],x,y,b=>by
  have:x=y:=b
  subst this;simp[zaI]
 | k::ws,x,y,b=>by
  obtain ⟨e1,r,hr,b'⟩:=b;obtain ⟨r',hr',_,h3,_⟩:=B.ent x k e1;rw[hr] at hr';cases hr'
  have:=B.tele b'
  rw[zct,zdk hr];omega
theorem BI.step {rs:List Road} {s h:Int->Int} {e:Int->Option Int} (B:BI rs s h e) {k:Nat} {r:Road} (hr:rs[k]? = some r) (hlt:h r.1+r.2.2 < h r.2.1) :
  BI rs s (up1 h r.2.1 (h r.1+r.2.2)) (up1 e r.2.1 (some (k:Int))):=by
 have hrk:=ze9 hr;have hmem:=zbz hrk;have hle:∀x,up1 h r.2.1 (h r.1+r.2.2) x<=h x:=fun x=>by
  by_cases hx:x=r.2.1
  .rw[hx,zc4];omega
  .rw[zcU _ _ hx];exact Int.le_refl _
 have ent':∀v j,up1 e r.2.1 (some (k:Int)) v=some j->∃r',zaK rs j=some r'/\r'.2.1=v/\up1 h r.2.1 (h r.1+r.2.2) r'.1+r'.2.2<=up1 h r.2.1 (h r.1+r.2.2) v/\up1 h r.2.1 (h r.1+r.2.2) v < s v/\(r'.1=r.2.1->up1 h r.2.1 (h r.1+r.2.2) r'.1+r'.2.2 < up1 h r.2.1 (h r.1+r.2.2) v):=by
  intro v j hv
  by_cases hx:v=r.2.1
  .subst hx;rw[zc4] at hv;cases hv;have hs:h r.2.1<=s r.2.1:=by
    cases hh:e r.2.1 with
    | none=>rw[B.non _ hh];exact Int.le_refl _
    | some j=>obtain ⟨_,_,_,_,q⟩:=B.ent _ _ hh;omega
   refine ⟨r,hrk,rfl, ?_, ?_, ?_⟩
   .rw[zc4];have:=hle r.1;omega
   .rw[zc4];omega
   .intro hu;rw[hu,zc4];rw[hu] at hlt;rw[<-hu] at *;omega
  .rw[zcU _ _ hx] at hv;obtain ⟨r',h1,h2,h3,h4⟩:=B.ent v j hv;refine ⟨r',h1,h2, ?_, ?_, ?_⟩
   .rw[zcU _ _ hx];have:=hle r'.1;omega
   .rw[zcU _ _ hx];exact h4
   .intro hu;rw[zcU _ _ hx,hu,zc4];rw[hu] at h3;omega
 refine ⟨fun v=>?_,fun v j hv=>?_,fun v hv=>?_,fun x ws hw hb=>?_⟩
 .by_cases hx:v=r.2.1
  .obtain ⟨u,L,w,e1⟩:=B.snd r.1;refine ⟨u,L+r.2.2, ?_,by rw[hx,zc4];omega⟩;rw[hx];exact w.trans (.one hmem)
  .obtain ⟨u,L,w,e1⟩:=B.snd v;exact ⟨u,L,w,by rw[zcU _ _ hx];exact e1⟩
 .obtain ⟨r',a,b,c,d,_⟩:=ent' v j hv;exact ⟨r',a,b,c,d⟩
 .by_cases hx:v=r.2.1
  .rw[hx,zc4] at hv;cases hv
  .rw[zcU _ _ hx] at hv ⊢;exact B.non v hv
 .-- the chain is an old one,or strictly shorter
  have key:∀(ws:List Int) (x y:Int),ws≠[]->Bk rs (up1 e r.2.1 (some (k:Int))) x y ws->
    (y≠r.2.1/\(x≠r.2.1->Bk rs e x y ws)/\up1 h r.2.1 (h r.1+r.2.2) y+zaI rs ws<=up1 h r.2.1 (h r.1+r.2.2) x)\/up1 h r.2.1 (h r.1+r.2.2) y+zaI rs ws < up1 h r.2.1 (h r.1+r.2.2) x:=by
   intro ws
   induction ws with
   | nil=>intro x y hn;exact absurd rfl hn
   | cons j ws ih=>
    intro x y _ hb;obtain ⟨e1,r',hr',b'⟩:=hb;obtain ⟨r2,h1,h2,h3,h4,h5⟩:=ent' x j e1;rw[hr'] at h1;cases h1;rw[zct,zdk hr']
    by_cases hv:r'.1=r.2.1
    .right
     have q:=h5 hv
     cases ws with
     | nil=>
      have hy:r'.1=y:=b';subst hy;simp only[zaI,List.map_nil,List.sum_nil];omega
     | cons j' ws'=>
      rcases ih r'.1 y (by simp) b' with ⟨_,_,z⟩ | z<;>omega
    .cases ws with
     | nil=>
      have hy:r'.1=y:=b';subst hy
      left
      refine ⟨hv,fun hx=>⟨by rw[zcU _ _ hx] at e1;exact e1,r',hr',rfl⟩, ?_⟩;simp only[zaI,List.map_nil,List.sum_nil];omega
     | cons j' ws'=>
      rcases ih r'.1 y (by simp) b' with ⟨z1,z2,z3⟩ | z
      .left
       exact ⟨z1,fun hx=>⟨by rw[zcU _ _ hx] at e1;exact e1,r',hr',z2 hv⟩,by omega⟩
      .right;omega
  rcases key ws x x hw hb with ⟨z1,z2,_⟩ | z
  .exact B.neg x ws hw (z2 z1)
  .omega
structure GI (rs:List Road) (b:Bf) (rd:Int->Nat) (k pos:Nat):Prop where
 en:∀v,1<=rd v->∃j r,b.e v=some j/\zaK rs j=some r/\rd v<=rd r.1+1
 ro:∀j r,rs[j]? = some r->b.h r.2.1<=b.h r.1+r.2.2\/k<=rd r.1+(if j < pos then 0 else 1)
 mx:∀v,rd v<=k
 la:∀v,b.l=some v->rd v=k
 nl:b.l=none->∀j r,j < pos->rs[j]? = some r->b.h r.2.1<=b.h r.1+r.2.2
structure BG (rs:List Road) (s:Int->Int) (b:Bf) (rd:Int->Nat) (k pos:Nat):Prop where
 bi:BI rs s b.h b.e
 gi:GI rs b rd k pos
theorem BG.step {rs:List Road} {s:Int->Int} {b:Bf} {rd:Int->Nat} {k pos:Nat} (G:BG rs s b rd (k+1) pos):∃rd',BG rs s (zh4 rs b pos) rd' (k+1) (pos+1):=by
 unfold zh4
 cases e:rs[pos]? with
 | none=>
  refine ⟨rd,G.bi,G.gi.en,fun j r hj=>?_,G.gi.mx,G.gi.la,fun hn j r hj hr=>?_⟩
  .rcases G.gi.ro j r hj with z | z
   .exact .inl z
   .right
    by_cases hj2:j < pos
    .rw[if_pos hj2] at z;rw[if_pos ∅];exact z
    .have:j≠pos:=fun q=>by rw[q,e] at hj;cases hj
     rw[if_neg hj2] at z;rw[if_neg ∅];exact z
  .by_cases q:j=pos
   .rw[q,e] at hr;cases hr
   .exact G.gi.nl hn j r ∅ hr
 | some r=>
  simp only
  by_cases hlt:b.h r.1+r.2.2 < b.h r.2.1
  .rw[if_pos hlt];have hro:k<=rd r.1:=by
    rcases G.gi.ro pos r e with z | z
    .omega
    .rw[if_neg ∅] at z;omega
   have hle:∀x,up1 b.h r.2.1 (b.h r.1+r.2.2) x<=b.h x:=fun x=>by
    by_cases hx:x=r.2.1
    .rw[hx,zc4];omega
    .rw[zcU _ _ hx];exact Int.le_refl _
   have hge:∀x,rd x<=up1 rd r.2.1 (k+1) x:=fun x=>by
    by_cases hx:x=r.2.1
    .rw[hx,zc4];exact G.gi.mx _
    .rw[zcU _ _ hx];exact Nat.le_refl _
   refine ⟨up1 rd r.2.1 (k+1),G.bi.step e hlt,fun v hv=>?_,fun j r' hj=>?_,fun v=>?_,fun v hv=>?_,fun hn=>by cases hn⟩
   .by_cases hx:v=r.2.1
    .subst hx;refine ⟨pos,r,zc4 _ _ _,ze9 e, ?_⟩;rw[zc4]
     have:=hge r.1
     omega
    .rw[zcU _ _ hx] at hv ⊢;obtain ⟨j,r',h1,h2,h3⟩:=G.gi.en v hv;refine ⟨j,r',by show up1 b.e r.2.1 _ v=_;rw[zcU _ _ hx];exact h1,h2, ?_⟩
     have:=hge r'.1
     omega
   .by_cases hx:r'.1=r.2.1
    .right;rw[hx,zc4];exact Nat.le_add_right _ _
    .rw[show (Bf.mk (up1 b.h r.2.1 (b.h r.1+r.2.2)) (up1 b.e r.2.1 (some (pos:Int))) (some r.2.1)).h=up1 b.h r.2.1 (b.h r.1+r.2.2) from rfl]
     by_cases hp:j=pos
     .subst hp;rw[e] at hj;cases hj
      left
      rw[zc4,zcU _ _ hx];exact Int.le_refl _
     .rcases G.gi.ro j r' hj with z | z
      .left
       have:=hle r'.2.1
       rw[zcU _ _ hx];omega
      .right
       rw[zcU _ _ hx]
       by_cases hj2:j < pos
       .rw[if_pos hj2] at z;rw[if_pos ∅];exact z
       .rw[if_neg hj2] at z;rw[if_neg ∅];exact z
   .by_cases hx:v=r.2.1
    .rw[hx,zc4];exact Nat.le_refl _
    .rw[zcU _ _ hx];exact G.gi.mx v
   .cases hv;exact zc4 _ _ _
  .rw[if_neg hlt];refine ⟨rd,G.bi,G.gi.en,fun j r' hj=>?_,G.gi.mx,G.gi.la,fun hn j r' hj hr=>?_⟩
   .by_cases hp:j=pos
    .subst hp;rw[e] at hj;cases hj;exact .inl ∅
    .rcases G.gi.ro j r' hj with z | z
     .exact .inl z
     .right
      by_cases hj2:j < pos
      .rw[if_pos hj2] at z;rw[if_pos ∅];exact z
      .rw[if_neg hj2] at z;rw[if_neg ∅];exact z
   .by_cases hp:j=pos
    .subst hp;rw[e] at hr;cases hr;omega
    .exact G.gi.nl hn j r' ∅ hr
theorem BG.to {rs:List Road} {s:Int->Int} {b:Bf} {rd:Int->Nat} {k:Nat} (G:BG rs s { b with l:=none } rd (k+1) 0):∀pos,∃rd',BG rs s (bfTo rs b pos) rd' (k+1) pos
 | 0=>⟨rd,G⟩
 | pos+1=>by
  obtain ⟨rd',G'⟩:=BG.to G pos;obtain ⟨rd2,G2⟩:=G'.step;refine ⟨rd2, ?_⟩;unfold bfTo at G2 ⊢;rw[zdY];exact G2
theorem BG.next {rs:List Road} {s:Int->Int} {b:Bf} {rd:Int->Nat} {k:Nat} (G:BG rs s b rd k rs.length):BG rs s { b with l:=none } rd (k+1) 0:=
 ⟨G.bi,G.gi.en,fun j r hj=>by
  have hl:=(List.getElem?_eq_some_iff.mp hj).1;rcases G.gi.ro j r hj with z | z
  .exact .inl z
  .right
   rw[if_pos hl] at z;rw[if_neg ∅]
   omega,fun v=>Nat.le_succ_of_le (G.gi.mx v),fun v hv=>(by cases hv),fun _ j r hj=>by omega⟩
theorem BG.first (rs:List Road) (s:Int->Int):BG rs s ⟨s,fun _=>none,none⟩ (fun _=>0) 1 0:=
 ⟨BI.start rs s,fun v hv=>absurd hv (show ¬(1<=0) by omega),fun j r hj=>.inr (by rw[if_neg ∅];exact Nat.le_refl _),fun v=>Nat.zero_le _,fun v hv=>(by cases hv),fun _ j r hj=>by omega⟩
theorem zeI {rs:List Road} {s:Int->Int}:∀(m:Nat) (b:Bf) (rd:Int->Nat) (k:Nat),BG rs s { b with l:=none } rd (k+1) 0->0 < m->
  BI rs s (zcQ rs m b).h (zcQ rs m b).e/\(((zcQ rs m b).l=none/\Pot rs (zcQ rs m b).h)\/∃(v:Int) (rd':Int->Nat),(zcQ rs m b).l=some v/\rd' v=k+m/\∀x,1<=rd' x->∃j r,(zcQ rs m b).e x=some j/\zaK rs j=some r/\rd' x<=rd' r.1+1)
 | 0,_,_,_,_,h=>absurd h ∅
 | m+1,b,rd,k,G,_=>by
  obtain ⟨rd',G'⟩:=G.to rs.length;unfold zcQ
  by_cases hl:(zbt rs b).l=none
  .rw[if_pos hl];exact ⟨G'.bi,.inl ⟨hl,fun r hr=>by
    obtain ⟨i,hi,e⟩:=List.getElem_of_mem hr;exact G'.gi.nl hl i r hi (by simp[hi,e])⟩⟩
  .rw[if_neg hl]
   by_cases hm:m=0
   .subst hm;refine ⟨G'.bi,.inr ?_⟩
    cases e:(zbt rs b).l with
    | none=>exact absurd e hl
    | some v=>
     exact ⟨v,rd',by unfold zcQ;exact e,G'.gi.la v e,fun x hx=>G'.gi.en x hx⟩
   .have:=zeI m (zbt rs b) rd' (k+1) (BG.next G') ∅
    refine ⟨this.1, ?_⟩;rcases this.2 with z | ⟨v,rd2,z1,z2,z3⟩
    .exact .inl z
    .exact .inr ⟨v,rd2,z1,by omega,z3⟩
theorem zea (n:Nat) (rs:List Road) (s:Int->Int):BI rs s (zaE n rs s).h (zaE n rs s).e:=by
 cases n with
 | zero=>exact BI.start rs s
 | succ n=>exact (zeI (n+1) _ _ 0 (BG.first rs s) (Nat.succ_pos _)).1
theorem znV:∀(n:Nat) (f:Nat->Nat),(∀i,i<=n->f i < n)->∃i j,i < j/\j<=n/\f i=f j
 | 0,f,h=>absurd (h 0 (Nat.le_refl _)) ∅
 | n+1,f,h=>by
  by_cases hx:∃i,i<=n/\f i=f (n+1)
  .obtain ⟨i,hi,e⟩:=hx;exact ⟨i,n+1,by omega,Nat.le_refl _,e⟩
  .have hne:∀i,i<=n->f i≠f (n+1):=fun i hi e=>hx ⟨i,hi,e⟩
   have ha:=h (n+1) (Nat.le_refl _);obtain ⟨i,j,h1,h2,h3⟩:=znV n (fun i=>if f i=n then f (n+1) else f i) (fun i hi=>by
    have h1:=h i ∅;have h2:=hne i hi
    show (if f i=n then f (n+1) else f i) < n
    split<;>omega)
   refine ⟨i,j,h1,by omega, ?_⟩;have h4:=hne i ∅;have h5:=hne j h2;have h3':(if f i=n then f (n+1) else f i)=(if f j=n then f (n+1) else f j):=h3;split at h3'<;>split at h3'<;>omega
theorem zkP {n:Nat} (f:Nat->Int) (h:∀i,i<=n->0<=f i/\f i < n):∃i j,i < j/\j<=n/\f i=f j:=by
 obtain ⟨i,j,h1,h2,h3⟩:=znV n (fun i=>(f i).toNat) (fun i hi=>by have:=h i hi;omega);refine ⟨i,j,h1,h2, ?_⟩
 have:=h i ∅
 have:=h j h2
 have h3':(f i).toNat=(f j).toNat:=h3;omega
theorem zkN {n:Nat} {xs:List Int} (nd:xs.Nodup) (h:∀x∈xs,0<=x/\x < n):xs.length<=n:=by
 rcases Nat.lt_or_ge n xs.length with hl | hl
 .obtain ⟨i,j,h1,h2,h3⟩:=zkP (n:=n) (fun i=>xs.getD i 0) (fun i hi=>by
   have hi':i < xs.length:=by omega
   have:xs.getD i 0=xs[i]:=by simp[List.getD,hi']
   show 0<=xs.getD i 0/\xs.getD i 0 < n
   rw[this];exact h _ (List.getElem_mem hi'))
  have hi':i < xs.length:=by omega
  have hj':j < xs.length:=by omega
  have e1:xs.getD i 0=xs[i]:=by simp[List.getD,hi']
  have e2:xs.getD j 0=xs[j]:=by simp[List.getD,hj']
  have h3':xs.getD i 0=xs.getD j 0:=h3;rw[e1,e2] at h3'
  have:=(List.getElem_inj nd).mp h3'
  omega
 .exact hl
theorem zc7 {rs:List Road}:∀{a b:List Int} {p m q:Int},zaZ rs p m a=true->zaZ rs m q b=true->zaZ rs p q (a++b)=true
 | [],b,p,m,q,h,g=>by
  have:p=m:=by simpa [zaZ] using h
  rw[this];exact g
 | k::a,b,p,m,q,h,g=>by
  unfold zaZ at h;rw[List.cons_append];unfold zaZ
  cases e:zaK rs k with
  | none=>rw[e] at h;cases h
  | some r=>
   rw[e] at h;simp only at h ⊢;split at h
   .rename_i hp;rw[if_pos hp];exact zc7 h g
   .cases h
theorem zd7 {rs:List Road} {k:Int} {r:Road} (h:zaK rs k=some r):zaZ rs r.1 r.2.1 [k]=true:=by
 unfold zaZ;rw[h];simp[zaZ]
theorem zdK (rs:List Road) (ws:List Int):zaI rs ws.reverse=zaI rs ws:=by
 unfold zaI;rw[List.map_reverse,List.sum_reverse]
theorem ze1 {n:Int} {rs:List Road} (ok:zaw n rs):∀{ws:List Int},zj2 rs ws->-(1000000000 * (ws.length:Int))<=zaI rs ws/\zaI rs ws<=1000000000 * (ws.length:Int)
 | [],_=>by simp[zaI]
 | k::ws,h=>by
  have ih:=ze1 ok (ws:=ws) fun j hj=>h j (List.mem_cons_of_mem _ hj)
  obtain ⟨h0,h1⟩:=h k List.mem_cons_self;obtain ⟨r,hr,_⟩:=zeL h0 h1;obtain ⟨_,_,l0,l1⟩:=ok.rd r (zbz hr);rw[zct,zdk hr,List.length_cons];omega
def zey (rs:List Road) (k:Int):Int:=match zaK rs k with
 | some r=>r.1
 | none=>0
theorem zgb {rs:List Road} {k:Int} {r:Road} (h:zaK rs k=some r):zey rs k=r.1:=by unfold zey;rw[h]
theorem BI.leads {rs:List Road} {s h:Int->Int} {e:Int->Option Int} (B:BI rs s h e):∀{ws:List Int} {x y:Int},Bk rs e x y ws->zaZ rs y x ws.reverse=true
 | [],x,y,b=>by
  have:x=y:=b
  subst this;simp[zaZ]
 | k::ws,x,y,b=>by
  obtain ⟨e1,r,hr,b'⟩:=b;obtain ⟨r',hr',h2,_⟩:=B.ent x k e1;rw[hr] at hr';cases hr';rw[List.reverse_cons];refine zc7 (B.leads b') ?_;rw[<-h2];exact zd7 hr
theorem Bk.allIn {rs:List Road} {e:Int->Option Int}:∀{ws:List Int} {x y:Int},Bk rs e x y ws->zj2 rs ws
 | [],_,_,_=>fun _ h=>by simp at h
 | k::ws,x,y,b=>fun j hj=>by
  obtain ⟨e1,r,hr,b'⟩:=b;rcases List.mem_cons.mp hj with rfl | hj
  .exact ⟨(za9 hr).1,(za9 hr).2.1⟩
  .exact Bk.allIn b' j hj
def stp (rs:List Road) (e:Int->Option Int) (x:Int):Int:=match e x with
 | some k=>zey rs k
 | none=>x
def itr (rs:List Road) (e:Int->Option Int):Nat->Int->Int
 | 0,x=>x
 | j+1,x=>stp rs e (itr rs e j x)
theorem zme {rs:List Road} {e:Int->Option Int} {x k:Int} {r:Road} (h:e x=some k) (hr:zaK rs k=some r):stp rs e x=r.1:=by unfold stp;rw[h];exact zgb hr
theorem zgi {rs:List Road} {e:Int->Option Int} {x:Int}:∀(m a:Nat),(∀i,a<=i->i < a+m->∃k r,e (itr rs e i x)=some k/\zaK rs k=some r)->∃ws,Bk rs e (itr rs e a x) (itr rs e (a+m) x) ws/\ws.length=m
 | 0,a,_=>⟨[],rfl,rfl⟩
 | m+1,a,h=>by
  obtain ⟨ws,hb,hl⟩:=zgi m (a+1) (fun i h1 h2=>h i ∅ ∅);obtain ⟨k,r,h1,h2⟩:=h a (Nat.le_refl _) ∅;refine ⟨k::ws,⟨h1,r,h2, ?_⟩,by simp[hl]⟩;have e1:itr rs e (a+1) x=r.1:=zme h1 h2;rw[<-e1,show a+(m+1)=a+1+m by omega];exact hb
theorem zlR {rs:List Road} {e:Int->Option Int} {x:Int} {i j:Nat} (h:itr rs e i x=itr rs e j x):∀t,itr rs e (i+t) x=itr rs e (j+t) x
 | 0=>h
 | t+1=>by show stp rs e (itr rs e (i+t) x)=stp rs e (itr rs e (j+t) x);rw[zlR h t]
theorem zih {rs:List Road} {e:Int->Option Int} {x:Int} {n:Nat} (hin:∀i,i<=n->0<=itr rs e i x/\itr rs e i x < n) (hen:∀i,i < n->∃k r,e (itr rs e i x)=some k/\zaK rs k=some r) :
  ∃ws,ws≠[]/\Bk rs e (itr rs e n x) (itr rs e n x) ws/\ws.length<=n:=by
 obtain ⟨i,j,h1,h2,h3⟩:=zkP (fun i=>itr rs e i x) hin;have h4:=zlR h3 (n - j);rw[show j+(n - j)=n by omega] at h4;obtain ⟨ws,hb,hl⟩:=zgi (rs:=rs) (e:=e) (x:=x) (n - (i+(n - j))) (i+(n - j)) (fun a _ ha=>hen a ∅);rw[show i+(n - j)+(n - (i+(n - j)))=n by omega,h4] at hb;exact ⟨ws,fun z=>by rw[z] at hl;simp at hl;omega,hb,by omega⟩
theorem zk3 {n:Int} {rs:List Road} (ok:zaw n rs) {s h:Int->Int} {e:Int->Option Int} (B:BI rs s h e) {x:Int} (hx:0<=x/\x < n):∀i,0<=itr rs e i x/\itr rs e i x < n
 | 0=>hx
 | i+1=>by
  show 0<=stp rs e (itr rs e i x)/\stp rs e (itr rs e i x) < n
  cases he:e (itr rs e i x) with
  | none=>unfold stp;rw[he];exact zk3 ok B hx i
  | some k=>
   obtain ⟨r,hr,_⟩:=B.ent _ k he;rw[zme he hr];exact (ok.rd r (zbz hr)).1
theorem BI.root {n:Int} {rs:List Road} (ok:zaw n rs) (T:Taut rs) {s h:Int->Int} {e:Int->Option Int} (B:BI rs s h e) {x:Int} (hx:0<=x/\x < n):∃y ws,Bk rs e x y ws/\e y=none/\(ws.length:Int)<=n - 1:=by
 have hin:=zk3 ok B hx
 by_cases hall:∀i,i < n.toNat->∃k,e (itr rs e i x)=some k
 .exfalso
  obtain ⟨ws,hne,hb,_⟩:=zih (rs:=rs) (e:=e) (x:=x) (n:=n.toNat) (fun i _=>by have:=hin i;omega) (fun i hi=>by
   obtain ⟨k,hk⟩:=hall i hi;obtain ⟨r,hr,_⟩:=B.ent _ k hk;exact ⟨k,r,hk,hr⟩)
  have h1:=B.neg _ ws hne hb;have h2:=T _ _ (zel (B.leads hb));rw[zdK] at h2;omega
 .-- the first one without an entry
  have hex:∃i,i < n.toNat/\e (itr rs e i x)=none:=by
   apply Classical.byContradiction;intro hno;refine hall fun i hi=>?_
   cases he:e (itr rs e i x) with
   | none=>exact absurd ⟨i,hi,he⟩ hno
   | some k=>exact ⟨k,rfl⟩
  have least:∀m,(∃i,i < m/\e (itr rs e i x)=none)->∃i,i < m/\e (itr rs e i x)=none/\∀j,j < i->e (itr rs e j x)≠none:=by
   intro m
   induction m with
   | zero=>rintro ⟨i,hi,_⟩;omega
   | succ m ih=>
    intro ⟨i,hi,he⟩
    by_cases hm:∃i,i < m/\e (itr rs e i x)=none
    .obtain ⟨j,h1,h2,h3⟩:=ih hm;exact ⟨j,by omega,h2,h3⟩
    .exact ⟨i,hi,he,fun j hj hn=>hm ⟨j,by omega,hn⟩⟩
  obtain ⟨i,hi,he,hj⟩:=least _ hex;obtain ⟨ws,hb,hl⟩:=zgi (rs:=rs) (e:=e) (x:=x) i 0 (fun a _ ha=>by
   cases h1:e (itr rs e a x) with
   | none=>exact absurd h1 (hj a ∅)
   | some k=>
    obtain ⟨r,hr,_⟩:=B.ent _ k h1;exact ⟨k,r,rfl,hr⟩)
  rw[Nat.zero_add] at hb;exact ⟨_,ws,hb,he,by omega⟩
def FB (rs:List Road) (e:Int->Option Int) (y:Int):Int->List Int->Prop
 | _,[]=>False
 | x,k::ws=>e x=some k/\∃r,zaK rs k=some r/\((r.1=y/\ws=[])\/(r.1≠y/\FB rs e y r.1 ws))
theorem FB.ex {rs:List Road} {e:Int->Option Int} {y:Int}:∀{ws:List Int} {x:Int},ws≠[]->Bk rs e x y ws->∃ws',FB rs e y x ws'/\ws'.length<=ws.length
 | [],_,h,_=>absurd rfl h
 | k::ws,x,_,b=>by
  obtain ⟨e1,r,hr,b'⟩:=b
  by_cases hy:r.1=y
  .exact ⟨[k],⟨e1,r,hr,.inl ⟨hy,rfl⟩⟩,by simp⟩
  .have hne:ws≠[]:=fun z=>by rw[z] at b';exact hy b'
   obtain ⟨ws',h1,h2⟩:=FB.ex hne b';exact ⟨k::ws',⟨e1,r,hr,.inr ⟨hy,h1⟩⟩,by simp;omega⟩
theorem FB.bk {rs:List Road} {e:Int->Option Int} {y:Int}:∀{ws:List Int} {x:Int},FB rs e y x ws->Bk rs e x y ws
 | [],_,h=>h.elim
 | k::ws,x,h=>by
  obtain ⟨e1,r,hr,z⟩:=h;refine ⟨e1,r,hr, ?_⟩;rcases z with ⟨z1,z2⟩ | ⟨_,z2⟩
  .rw[z2];exact z1
  .exact FB.bk z2
theorem FB.ne {rs:List Road} {e:Int->Option Int} {y x:Int} {ws:List Int} (h:FB rs e y x ws):ws≠[]:=fun z=>by rw[z] at h;exact h
theorem FB.uniq {rs:List Road} {e:Int->Option Int} {y:Int}:∀{a b:List Int} {x:Int},FB rs e y x a->FB rs e y x b->a=b
 | [],_,_,h,_=>h.elim
 | _::_,[],_,_,h=>h.elim
 | k::a,j::b,x,h,g=>by
  obtain ⟨e1,r,hr,z⟩:=h;obtain ⟨e2,r2,hr2,z'⟩:=g;rw[e1] at e2;cases e2;rw[hr] at hr2;cases hr2;rcases z with ⟨z1,z2⟩ | ⟨z1,z2⟩
  .rcases z' with ⟨y1,y2⟩ | ⟨y1,y2⟩
   .rw[z2,y2]
   .exact absurd z1 y1
  .rcases z' with ⟨y1,y2⟩ | ⟨y1,y2⟩
   .exact absurd y1 z1
   .rw[FB.uniq z2 y2]
theorem FB.tail {rs:List Road} {e:Int->Option Int} {y z:Int} (hz:z≠y):∀{ws:List Int} {x:Int},FB rs e y x ws->z∈ws.map (zey rs)->∃ws',FB rs e y z ws'/\ws'.length < ws.length
 | [],_,h,_=>h.elim
 | k::ws,x,h,hm=>by
  obtain ⟨e1,r,hr,w⟩:=h;rw[List.map_cons,zgb hr] at hm;rcases w with ⟨w1,w2⟩ | ⟨w1,w2⟩
  .rw[w2] at hm;simp at hm;exact absurd (hm.trans w1) hz
  .rcases List.mem_cons.mp hm with q | q
   .rw[q];exact ⟨ws,w2,by simp⟩
   .obtain ⟨ws',h1,h2⟩:=FB.tail hz w2 q;exact ⟨ws',h1,by simp;omega⟩
theorem FB.nodup {rs:List Road} {e:Int->Option Int} {y:Int}:∀{ws:List Int} {x:Int},FB rs e y x ws->(ws.map (zey rs)).Nodup
 | [],_,h=>h.elim
 | k::ws,x,h=>by
  obtain ⟨e1,r,hr,w⟩:=h;rw[List.map_cons,zgb hr];rcases w with ⟨w1,w2⟩ | ⟨w1,w2⟩
  .rw[w2];simp
  .refine List.nodup_cons.mpr ⟨fun hm=>?_,FB.nodup w2⟩;obtain ⟨ws',h1,h2⟩:=FB.tail w1 w2 hm
   have:=FB.uniq h1 w2
   rw[this] at h2;omega
theorem FB.last {rs:List Road} {e:Int->Option Int} {y x:Int} (hz:x≠y) {ws:List Int} (h:FB rs e y x ws):x∉ws.map (zey rs):=fun hm=>by
 obtain ⟨ws',h1,h2⟩:=FB.tail hz h hm;rw[FB.uniq h1 h] at h2;omega
theorem ziC {n:Int} {rs:List Road} (ok:zaw n rs) (s:Int->Int) :
  ((zaE n.toNat rs s).l=none/\Pot rs (zaE n.toNat rs s).h)\/
  ∃v,(zaE n.toNat rs s).l=some v/\(0<=v/\v < n)/\(∀i,i < n.toNat->∃k r,(zaE n.toNat rs s).e (itr rs (zaE n.toNat rs s).e i v)=some k/\zaK rs k=some r)/\
   ∃ws,FB rs (zaE n.toNat rs s).e (itr rs (zaE n.toNat rs s).e n.toNat v) (itr rs (zaE n.toNat rs s).e n.toNat v) ws/\zaI rs ws < 0:=by
 have n0:=ok.n0
 by_cases hn:n.toNat=0
 .left
  rw[hn];refine ⟨rfl,fun r hr=>?_⟩
  have:=(ok.rd r hr).1
  omega
 .have B:=zea n.toNat rs s;obtain ⟨_,z⟩:=zeI n.toNat ⟨s,fun _=>none,none⟩ _ 0 (BG.first rs s) ∅;rcases z with z | ⟨v,rd,h1,h2,h3⟩
  .exact .inl z
  .right
   change (zaE n.toNat rs s).l=some v at h1
   change ∀x,1<=rd x->∃j r,(zaE n.toNat rs s).e x=some j/\zaK rs j=some r/\rd x<=rd r.1+1 at h3
   generalize zaE n.toNat rs s=b at *;have hv:0<=v/\v < n:=by
    obtain ⟨j,r,e1,e2,_⟩:=h3 v ∅;obtain ⟨r',e3,e4,_⟩:=B.ent v j e1;rw[e2] at e3;cases e3;rw[<-e4];exact (ok.rd r (zbz e2)).2.1
   have hrd:∀i,i<=n.toNat->n.toNat<=rd (itr rs b.e i v)+i:=by
    intro i
    induction i with
    | zero=>intro _;show n.toNat<=rd v+0;omega
    | succ i ih=>
     intro hi;have q:=ih ∅;obtain ⟨j,r,e1,e2,e3⟩:=h3 _ (show 1<=rd (itr rs b.e i v) by omega)
     show n.toNat<=rd (stp rs b.e (itr rs b.e i v))+(i+1)
     rw[zme e1 e2];omega
   have hen:∀i,i < n.toNat->∃k r,b.e (itr rs b.e i v)=some k/\zaK rs k=some r:=fun i hi=>by
    obtain ⟨j,r,e1,e2,_⟩:=h3 _ (show 1<=rd (itr rs b.e i v) by have:=hrd i ∅;omega);exact ⟨j,r,e1,e2⟩
   refine ⟨v,h1,hv,hen, ?_⟩;obtain ⟨ws,hne,hb,_⟩:=zih (rs:=rs) (e:=b.e) (x:=v) (n:=n.toNat) (fun i _=>by have:=zk3 ok B hv i;omega) hen;obtain ⟨ws',hf,_⟩:=FB.ex hne hb;exact ⟨ws',hf,B.neg _ ws' hf.ne hf.bk⟩
theorem zda {n:Int} {rs:List Road} (ok:zaw n rs) (T:Taut rs) (s:Int->Int):(zaE n.toNat rs s).l=none/\Pot rs (zaE n.toNat rs s).h:=by
 rcases ziC ok s with z | ⟨v,_,_,_,ws,h1,h2⟩
 .exact z
 .exfalso
  have:=T _ _ (zel ((zea n.toNat rs s).leads h1.bk))
  rw[zdK] at this;omega
theorem BI.le {rs:List Road} {s h:Int->Int} {e:Int->Option Int} (B:BI rs s h e) (v:Int):h v<=s v:=by
 cases hh:e v with
 | none=>rw[B.non _ hh];exact Int.le_refl _
 | some j=>obtain ⟨_,_,_,_,q⟩:=B.ent _ _ hh;omega
theorem BI.bk_eq {rs:List Road} {s h:Int->Int} {e:Int->Option Int} (B:BI rs s h e) (P:Pot rs h) {x y:Int} {ws:List Int} (b:Bk rs e x y ws):h x=h y+zaI rs ws:=by
 have h1:=B.tele b;have h2:=P.wk (zel (B.leads b));rw[zdK] at h2;omega
def farS (one far:Int):Int->Int:=fun x=>if x=one then 0 else far
theorem zlj {n:Int} {rs:List Road} (ok:zaw n rs) (T:Taut rs) {one far:Int} {v L:Int} (hv:0<=v/\v < n) (w:Wk rs one v L) (hL:L+1000000000 * (n - 1) < far) :
  ∃ws,Bk rs (zaE n.toNat rs (farS one far)).e v one ws/\(zaE n.toNat rs (farS one far)).e one=none/\(ws.length:Int)<=n - 1/\Dist rs one v (zaI rs ws)/\(zaE n.toNat rs (farS one far)).h v=zaI rs ws/\(zaE n.toNat rs (farS one far)).h one=0:=by
 have B:=zea n.toNat rs (farS one far);have P:=(zda ok T (farS one far)).2;generalize zaE n.toNat rs (farS one far)=b at *;obtain ⟨y,ws,hb,hy,hl⟩:=B.root ok T hv;have h1:=B.bk_eq P hb;have h2:b.h one<=0:=by have:=B.le one;unfold farS at this;rw[if_pos rfl] at this;exact this
 have h3:=P.wk w;have hbd:=ze1 ok hb.allIn;have h4:=B.non y hy;have hyo:y=one:=by
  apply Classical.byContradiction;intro hne;unfold farS at h4;rw[if_neg hne] at h4
  have:1000000000 * (ws.length:Int)<=1000000000 * (n - 1):=by omega
  omega
 subst hyo;have h5:b.h y=0:=by rw[h4];unfold farS;rw[if_pos rfl]
 refine ⟨ws,hb,hy,hl,⟨?_,fun M wM=>?_⟩,by omega,h5⟩
 .have:=zel (B.leads hb)
  rw[zdK] at this;exact this
 .have:=P.wk wM
  omega
theorem zll {n:Int} {rs:List Road} (ok:zaw n rs) (T:Taut rs) {one v L:Int} (hv:0<=v/\v < n) (w:Wk rs one v L):∃d,Dist rs one v d/\-(1000000000 * (n - 1))<=d/\d<=1000000000 * (n - 1):=by
 obtain ⟨ws,h1,_,h3,h4,_⟩:=zlj ok T (far:=L+1000000000 * (n - 1)+1) hv w ∅
 have:=ze1 ok h1.allIn
 exact ⟨_,h4,by omega,by omega⟩
theorem zjs {n:Int} {rs:List Road} (ok:zaw n rs) (T:Taut rs) {one v L:Int} (hv:0<=v/\v < n) (w:Wk rs one v L) :
  ∃ws,Bk rs (zaE n.toNat rs (farS one 40000000000)).e v one ws/\(zaE n.toNat rs (farS one 40000000000)).e one=none/\(ws.length:Int)<=n - 1/\Dist rs one v (zaI rs ws)/\(zaE n.toNat rs (farS one 40000000000)).h v=zaI rs ws/\(zaE n.toNat rs (farS one 40000000000)).h one=0:=by
 obtain ⟨d,h1,h2,h3⟩:=zll ok T hv w
 have:=ok.n1
 exact zlj ok T hv h1.1 ∅
theorem zrQ {n:Int} {rs:List Road} (ok:zaw n rs) (T:Taut rs) {one v:Int} (hv:0<=v/\v < n):-20000000000<=(zaE n.toNat rs (farS one 40000000000)).h v/\(zaE n.toNat rs (farS one 40000000000)).h v<=40000000000:=by
 have B:=zea n.toNat rs (farS one 40000000000);have P:=(zda ok T (farS one 40000000000)).2;generalize zaE n.toNat rs (farS one 40000000000)=b at *;obtain ⟨y,ws,hb,hy,hl⟩:=B.root ok T hv;have h1:=B.bk_eq P hb;have h4:=B.non y hy;have hbd:=ze1 ok hb.allIn;have h5:=B.le v;have n1:=ok.n1;have c:∀x,0<=farS one 40000000000 x/\farS one 40000000000 x<=40000000000:=fun x=>by unfold farS;split<;>omega
 have:=c y
 have:=c v
 omega
open Classical in
def zie (S:Int->Prop):Option Int:=if h:∃d,S d/\∀L,S L->d<=L then some h.choose else none
theorem leastO_some {S:Int->Prop} {d:Int}:zie S=some d↔S d/\∀L,S L->d<=L:=by
 unfold zie;constructor
 .intro e
  by_cases h:∃d,S d/\∀L,S L->d<=L
  .rw[dif_pos h] at e;cases e;exact h.choose_spec
  .rw[dif_neg h] at e;cases e
 .intro g;have h:∃d,S d/\∀L,S L->d<=L:=⟨d,g⟩;rw[dif_pos h];have a:=h.choose_spec.2 d g.1;have b:=g.2 _ h.choose_spec.1;exact congrArg some ∅
def zaq (n:Nat) (rs:List Road):Tab:=(List.range n).map fun i:Nat=>(List.range n).map fun j:Nat=>zie (Wk rs i j)
theorem zcV (n:Nat) (rs:List Road):Shape n (zaq n rs):=⟨by simp[zaq],fun r hr=>by
 unfold zaq at hr;obtain ⟨i,_,rfl⟩:=List.mem_map.mp hr;simp⟩
theorem zic {n p q:Int} {rs:List Road} (hp:0<=p/\p < n) (hq:0<=q/\q < n):cell (zaq n.toNat rs) p.toNat q.toNat=zie (Wk rs p q):=by
 have a:p.toNat < n.toNat:=by omega
 have b:q.toNat < n.toNat:=by omega
 have e:((p.toNat:Nat):Int)=p:=by omega
 have f:((q.toNat:Nat):Int)=q:=by omega
 unfold cell zaq;simp[a,b];rw[show max p 0=p by omega,show max q 0=q by omega]
theorem zeG {n:Int} {rs:List Road} (ok:zaw n rs) (T:Taut rs) {p q:Int} (hp:0<=p/\p < n) (hq:0<=q/\q < n) {d:Int}:cell (zaq n.toNat rs) p.toNat q.toNat=some d↔Dist rs p q d:=by
 rw[zic hp hq];exact leastO_some
theorem zeH {n:Int} {rs:List Road} (ok:zaw n rs) (T:Taut rs) {p q:Int} (hp:0<=p/\p < n) (hq:0<=q/\q < n):cell (zaq n.toNat rs) p.toNat q.toNat=none↔∀L,¬Wk rs p q L:=by
 rw[zic hp hq];constructor
 .intro e L w;obtain ⟨d,h,_⟩:=zll ok T hq w;rw[leastO_some.mpr h] at e;cases e
 .intro h
  cases e:zie (Wk rs p q) with
  | none=>rfl
  | some d=>exact absurd (leastO_some.mp e).1 (h d)
end My
namespace L2
open PySem
theorem zcp {G:GF} {S:SF} {items:List O} {ρ:Rho} (I:Nat->Rho->Prop) (h0:I 0 ρ) (hs:∀i x ρ,items[i]? = some x->I i ρ->∃ρ1 ρ2,G x ρ=some ρ1/\S ρ1=.nx ρ2/\I (i+1) ρ2):∃ρ',forF G S items ρ=.nx ρ'/\I items.length ρ':=by
 induction items generalizing ρ I with
 | nil=>exact ⟨ρ,rfl,h0⟩
 | cons x xs ih=>
  obtain ⟨ρ1,ρ2,e1,e2,h1⟩:=hs 0 x ρ rfl h0;obtain ⟨ρ',e3,h3⟩:=ih (I:=fun i=>I (i+1)) (ρ:=ρ2) h1 fun i y ρ hy hi=>hs (i+1) y ρ (by simpa using hy) hi
  exact ⟨ρ',by rw[forF,e1];dsimp only;rw[e2];exact e3,by simpa using h3⟩
theorem zoA {js:List (Option Nat)} {G:GF} {T:TF} {A:EF} {items:List O} {ρ:Rho} {acc:List O} {q:Bool} (I:Nat->Rho->List O->Prop) (h0:I 0 ρ acc)
  (hs:∀i x ρ acc,items[i]? = some x->I i ρ acc->∃ρ1 ρ2 b q2,G x (zdi js ρ)=some ρ1/\T ρ1=.ok b ρ2 q2/\((b=true/\∃r ρ3 q3 o ρ4,A ρ2=.ok r ρ3 q3/\coe ρ3 r=some (o,ρ4)/\I (i+1) (zcy js ρ4 (clrR js ρ)) (acc++[o]))\/(b=false/\I (i+1) (zcy js ρ2 (clrR js ρ)) acc))) :
  ∃os ρ' q',lcF js G T A items ρ acc q=.ok os ρ' q'/\I items.length ρ' os:=by
 induction items generalizing ρ acc q I with
 | nil=>exact ⟨acc,ρ,q,rfl,h0⟩
 | cons x xs ih=>
  obtain ⟨ρ1,ρ2,b,q2,e1,e2,h⟩:=hs 0 x ρ acc rfl h0;rcases h with ⟨rfl,r,ρ3,q3,o,ρ4,e3,e4,h1⟩ | ⟨rfl,h1⟩
  .obtain ⟨os,ρ',q',e5,h5⟩:=ih (I:=fun i=>I (i+1)) (ρ:=zcy js ρ4 (clrR js ρ)) (acc:=acc++[o]) (q:=q&&q2&&q3) h1 fun i y ρ acc hy hi=>hs (i+1) y ρ acc (by simpa using hy) hi
   exact ⟨os,ρ',q',by rw[lcF,e1];dsimp only;rw[e2];dsimp only;rw[if_pos rfl,e3];dsimp only;rw[e4];exact e5,by simpa using h5⟩
  .obtain ⟨os,ρ',q',e5,h5⟩:=ih (I:=fun i=>I (i+1)) (ρ:=zcy js ρ2 (clrR js ρ)) (acc:=acc) (q:=q&&q2) h1 fun i y ρ acc hy hi=>hs (i+1) y ρ acc (by simpa using hy) hi
   exact ⟨os,ρ',q',by rw[lcF,e1];dsimp only;rw[e2];dsimp only;rw[if_neg Bool.false_ne_true];exact e5,by simpa using h5⟩
theorem zd8 {js:List (Option Nat)} {G:GF} {T:TF} {A:EF} {ρ:Rho} (p:O->Bool) (f:O->O):∀{items:List O} {acc:List O} {q:Bool},
  (∀x∈items,∃ρ1 ρ2 q2,G x (zdi js ρ)=some ρ1/\T ρ1=.ok (p x) ρ2 q2/\(p x=true->∃r ρ3 q3 ρ4,A ρ2=.ok r ρ3 q3/\coe ρ3 r=some (f x,ρ4)/\zcy js ρ4 (clrR js ρ)=ρ)/\(p x=false->zcy js ρ2 (clrR js ρ)=ρ))->
  ∃q',lcF js G T A items ρ acc q=.ok (acc++(items.filter p).map f) ρ q'
 | [],acc,q,_=>⟨q,by simp[lcF]⟩
 | x::xs,acc,q,h=>by
  obtain ⟨ρ1,ρ2,q2,e1,e2,ht,hf⟩:=h x List.mem_cons_self;have h':∀y∈xs,_:=fun y hy=>h y (List.mem_cons_of_mem _ hy)
  cases hp:p x with
  | true=>
   obtain ⟨r,ρ3,q3,ρ4,e3,e4,e5⟩:=ht hp;obtain ⟨q',e⟩:=zd8 p f (items:=xs) (acc:=acc++[f x]) (q:=q&&q2&&q3) h';refine ⟨q', ?_⟩;rw[lcF,e1];dsimp only;rw[e2,hp];dsimp only;rw[if_pos rfl,e3];dsimp only;rw[e4];dsimp only;rw[e5,e,List.filter_cons,if_pos hp];simp
  | false=>
   obtain ⟨q',e⟩:=zd8 p f (items:=xs) (acc:=acc) (q:=q&&q2) h';refine ⟨q', ?_⟩;rw[lcF,e1];dsimp only;rw[e2,hp];dsimp only;rw[if_neg Bool.false_ne_true,hf hp,e,List.filter_cons,if_neg (by rw[hp];exact Bool.false_ne_true)]
@[simp] theorem zsW (G:GF) (S:SF) (ρ:Rho):forF G S [] ρ=.nx ρ:=rfl
theorem zdD {j:Int} (h0:-4611686018427387904<=j) (h1:j < 4611686018427387904):okR j=true:=decide_eq_true ⟨by omega,by omega⟩
@[simp] theorem zsD (I:Rho->Re (List O)) (G:GF) (S:SF) (ρ:Rho):sFor I G S ρ=match I ρ with
 | .bad=>.bad
 | .ex c ρ'=>.ex c ρ'
 | .ok items ρ' _=>forF G S items ρ':=rfl
@[simp] theorem zq1 (I:Rho->Re (Src×Bool)) (G:GF) (S:SF) (ρ:Rho):zg1 I G S ρ=match I ρ with
 | .bad=>.bad
 | .ex c ρ'=>.ex c ρ'
 | .ok ((items,_),_) ρ' _=>forF G S items ρ':=rfl
def gR (j:Int) (ρ1:Rho) (q:Bool):Re (List O):=if okR j then .ok (rngO 0 j.toNat) ρ1 q else .bad
theorem ziN {j:Int} {ρ1:Rho} {q:Bool} (h:okR j=true):gR j ρ1 q=.ok (rngO 0 j.toNat) ρ1 q:=if_pos h
@[simp] theorem zsJ (A:EF) (ρ:Rho):itR1 A ρ=(eSc decI A ρ).bind gR:=rfl
@[simp] theorem ztj (A:EF) (ρ:Rho):itE A ρ=(A ρ).bind fun r ρ1 q=>match coe ρ1 r with
 | some (o,ρ2)=>match fz o with
  | some (.list ds)=>.ok (zc6 0 ds) ρ2 q
  | _=>.bad
 | none=>.bad:=rfl
@[simp] theorem zsL (view:Bool) (mk:List PyData->List O) (A:EF) (ρ:Rho):srcM view mk A ρ=(A ρ).bind fun r ρ1 q=>match (if view then zfA ρ1 r else none) with
 | some (ds,k,i,oi)=>.ok ((mk ds,some (i,oi)),k) (ρ1.set i .z) q
 | none=>match cov ρ1 r with
  | some (ds,k,ρ2)=>.ok ((mk ds,none),k) ρ2 q
  | none=>.bad:=rfl
@[simp] theorem ztk (ρ:Rho) (r:Rv):cov ρ r=match coe ρ r with
 | some (o,ρ2)=>match fz o with
  | some (.list ds)=>some (ds,true,ρ2)
  | some (.tuple ds)=>some (ds,false,ρ2)
  | _=>none
 | none=>none:=rfl
@[simp] theorem zsS (take:Rho->Rv->Option (O×Rho)) (A C B:EF) (ρ:Rho):sSub take A C B ρ=match A ρ with
 | .bad=>.bad
 | .ex c ρ'=>.ex c ρ'
 | .ok r ρ' _=>match take ρ' r with
  | none=>.bad
  | some (o,ρ1)=>match C ρ1 with
   | .bad=>.bad
   | .ex c ρ'=>.ex c ρ'
   | .ok rc ρ2 _=>match eSc decI B ρ2 with
    | .bad=>.bad
    | .ex c ρ'=>.ex c ρ'
    | .ok k ρ3 q3=>if pok ρ2 q3 rc then match zdG ρ3 rc fun os=>(ixN os.length k).map fun j=>os.set j o with
      | some ρ4=>.nx ρ4
      | none=>.bad
     else .bad:=rfl
@[simp] theorem ziI (ρ:Rho) (i:Nat) (h:List O->Option (List O)):zdG ρ (.at i []) h=match ρ[i]? with
  | some (.l os)=>match h os with
   | some os'=>some (ρ.set i (.l os'))
   | none=>none
  | _=>none:=by
 rw[zdG]
 cases ρ[i]? with
 | none=>rfl
 | some o=>
  cases o with
  | l os=>(simp[put])<;>(cases h os<;>rfl)
  | _=>rfl
@[simp] theorem zdS (ρ:Rho) (i:Nat) (k:Int):gIx ρ (.at i []) k=match ρ[i]? with
  | some .z=>none
  | some o=>match els o with
   | some (_,os)=>match ixN os.length k with
    | some j=>match os[j]? with
     | some c=>zeD (.at i []) j c
     | none=>none
    | none=>none
   | none=>(fIxS o k).map Rv.own
  | none=>none:=by
 unfold gIx;rw[znN]
 cases ρ[i]? with
 | none=>rfl
 | some o=>cases o<;>rfl
@[simp] theorem zcq (ρ:Rho) (o:O) (k:Int):gIx ρ (.own o) k=match nz (some o) with
  | none=>none
  | some o=>match els o with
   | some (_,os)=>match ixN os.length k with
    | some j=>match os[j]? with
     | some c=>zeD (.own o) j c
     | none=>none
    | none=>none
   | none=>(fIxS o k).map Rv.own:=by
 unfold gIx
 have:vn ρ (.own o)=nz (some o):=by cases o<;>rfl
 rw[this]
 cases o<;>rfl
@[simp] theorem ztR (r:Rv) (k:Nat) (x:PyData):zeD r k (.d x)=some (.own (.d x)):=rfl
@[simp] theorem zsQ (C A:EF) (ρ:Rho):eApp C A ρ=(C ρ).bind fun rc ρ1 q1=>if isL ρ1 rc then (A ρ1).bind fun ra ρ2 q2=>if pok ρ1 q2 rc then match coe ρ2 ra with
  | some (o,ρ3)=>match zdG ρ3 rc fun os=>if os.length < sizeLine then some (os++[o]) else none with
   | some ρ4=>.ok (.own (.d .none)) ρ4 false
   | none=>.bad
  | none=>.bad
 else .bad else .bad:=rfl
def lsy:Option O->Bool
 | some (.l _)=>true
 | some (.d (.list _))=>true
 | _=>false
@[simp] theorem zuZ (os:List O):lsy (some (.l os))=true:=rfl
@[simp] theorem zu2 (os:List PyData):lsy (some (.d (.list os)))=true:=rfl
@[simp] theorem zu6 (ρ:Rho) (i:Nat):isL ρ (.at i [])=lsy ρ[i]? := by
 unfold isL;rw[znN]
 cases ρ[i]? with
 | none=>rfl
 | some o=>
  cases o with
  | d x=>cases x<;>rfl
  | _=>rfl
@[simp] theorem zpi (I:Rho->Re (List O)) (js:List (Option Nat)) (G:GF) (T:TF) (A:EF) (ρ:Rho):eLC I js G T A ρ=match I ρ with
 | .bad=>.bad
 | .ex c ρ'=>.ex c ρ'
 | .ok items ρ1 q1=>if items.length<=sizeLine then match lcF js G T A items ρ1 [] true with
   | .ok os ρ2 q2=>.ok (.own (.l os)) ρ2 (q1&&q2)
   | _=>.bad
  else .bad:=rfl
@[simp] theorem ztT (I:Rho->Re (Src×Bool)) (js:List (Option Nat)) (G:GF) (T:TF) (A:EF) (ρ:Rho):eLS I js G T A ρ=match I ρ with
 | .bad=>.bad
 | .ex c ρ'=>.ex c ρ'
 | .ok ((items,rs),_) ρ1 q1=>if items.length<=sizeLine then match lcF js G T A items ρ1 [] true with
   | .ok os ρ2 q2=>.ok (.own (.l os)) (ziH rs ρ2) (q1&&q2)
   | _=>.bad
  else .bad:=rfl
@[simp] theorem zpR (ρ:Rho):ziH none ρ=ρ:=rfl
@[simp] theorem zpT (ρ:Rho) (i:Nat) (o:O):ziH (some (i,o)) ρ=ρ.set i o:=rfl
@[simp] theorem zcO (lo:Int) (n:Nat):(rngO lo n).length=n:=by simp[rngO]
theorem zcN {lo:Int} {n i:Nat} {x:O} (h:(rngO lo n)[i]? = some x):i < n/\x=⇑(lo+i):=by
 unfold rngO at h;rw[List.getElem?_map] at h
 by_cases hi:i < n
 .rw[List.getElem?_range hi] at h;cases h;exact ⟨hi,rfl⟩
 .rw[List.getElem?_eq_none (by simp;omega)] at h;cases h
@[simp] theorem zug:mkT []=.d (.tuple []):=rfl
@[simp] theorem zun (x y:PyData):mkT [.d x,.d y]=.d (.tuple [x,y]):=rfl
@[simp] theorem zuy (x y z:PyData):mkT [.d x,.d y,.d z]=.d (.tuple [x,y,z]):=rfl
@[simp] theorem zuN (x:PyData):mkT [.d x]=.d (.tuple [x]):=rfl
end L2
namespace My
open PySem L2
theorem zmC {b c:Int} (hb0:0<=b) (hb:b < 2147483647) (hc0:0<=c) (hc:c < 4611686018427387904):∃n:Int,zck [⇑b,⇑c]=.ok ⇑n []/\0<=n/\n < 2147483587:=by
 have x0:=Int.emod_nonneg (b * 1103515245+7919 * c * c+c+1) (b:=2147483647) (by decide);have x1:=Int.emod_lt_of_pos (b * 1103515245+7919 * c * c+c+1) (b:=2147483647) (by decide);have m1:fMul ⇑b ⇑1103515245=some ⇑(b * 1103515245):=zgL (by decide) (by decide);have m2:fMul ⇑7919 ⇑c=some ⇑(7919 * c):=zii (by decide) (by decide);have m3:fMul ⇑(7919 * c) ⇑c=some ⇑(7919 * c * c):=zgL ∅ ∅;have d1:fMod ⇑(b * 1103515245+7919 * c * c+c+1) ⇑2147483647=some ⇑((b * 1103515245+7919 * c * c+c+1) % 2147483647):=zfb (by decide);generalize (b * 1103515245+7919 * c * c+c+1) % 2147483647=x at *;have m4:fMul ⇑x ⇑x=some ⇑(x * x):=zgL ∅ ∅;have d2:fMod ⇑(x * x+69621) ⇑2147483629=some ⇑((x * x+69621) % 2147483629):=zfb (by decide);generalize (x * x+69621) % 2147483629=y at *;have m5:fMul ⇑y ⇑48271=some ⇑(y * 48271):=zgL (by decide) (by decide);have d3:fMod ⇑(y * 48271) ⇑2147483587=some ⇑(y * 48271 % 2147483587):=zfb (by decide);refine ⟨y * 48271 % 2147483587, ?_,Int.emod_nonneg _ (by decide),Int.emod_lt_of_pos _ (by decide)⟩;unfold zck zdX;exact (zbn rfl (zag (zao (zau (zau (zau (zau (zau rfl rfl rfl rfl rfl m1) (zau (zau rfl rfl rfl rfl rfl m2) rfl rfl rfl rfl m3) rfl rfl rfl rfl) rfl rfl rfl rfl rfl) rfl rfl rfl rfl rfl) rfl rfl rfl rfl d1) rfl rfl) (zag (zao (zau (zau (zau rfl rfl rfl rfl rfl m4) rfl rfl rfl rfl rfl) rfl rfl rfl rfl d2) rfl rfl) (zaS (zau (zau rfl rfl rfl rfl rfl m5) rfl rfl rfl rfl d3) rfl))) rfl)
structure PuOk (p:O) (m:Int):Prop where
 ex:∃a b c:Int,p=.l [⇑a,⇑b,⇑c]/\0<=a/\0<=b/\b < 2147483647/\0<=c/\c<=m
theorem PuOk.sh {p:O} {m:Int} (h:PuOk p m):∃a b c:Int,p=.l [⇑a,⇑b,⇑c]:=by
 obtain ⟨a,b,c,e,_⟩:=h.ex;exact ⟨a,b,c,e⟩
theorem PuOk.mono {p:O} {m m':Int} (h:PuOk p m) (l:m<=m'):PuOk p m':=by
 obtain ⟨a,b,c,e,h0,h1,h2,h3,h4⟩:=h.ex;exact ⟨a,b,c,e,h0,h1,h2,h3,by omega⟩
theorem ztd (ns:List Int) {k:Int} (h:0<=k):∃n:Int,zc5 [.q (ns.map V.int),⇑k]=.ok ⇑n []:=by
 unfold zc5 zeY
 by_cases hk:k < ns.length
 .obtain ⟨j,rfl⟩:∃j:Nat,k=j:=⟨k.toNat,by omega⟩;have hj:j < ns.length:=by omega
  have:atI (ns.map V.int) (j:Int)=some (.int ns[j]):=zpP (by rw[List.getElem?_map,List.getElem?_eq_getElem hj];rfl)
  simp[hj,fIxS,this]
 .simp[hk]
theorem zmt (ns:List Int) {k:Int} (h:0<=k) (h2:k<=63):∃p,zbN [.q (ns.map V.int),⇑k]=.ok p []/\PuOk p 63000:=by
 obtain ⟨n,e⟩:=ztd ns h;unfold zbN zdV;refine ⟨.l [⇑(if n - 1000000000000000000 < 0 then 0 else n - 1000000000000000000),⇑(n % 2147483647),⇑(1000 * k)], ?_,⟨_,_,_,rfl, ?_⟩⟩
 .have fp:fPow ⇑10 ⇑18=some ⇑1000000000000000000:=rfl;have fm:fMod ⇑n ⇑2147483647=some ⇑(n % 2147483647):=zfb (by decide);have mu:fMul ⇑1000 ⇑k=some ⇑(1000 * k):=zii (by decide) (by decide);exact (zbn rfl (zag (zao (za2 (zab rfl (zab rfl rfl rfl) rfl) rfl e rfl) rfl rfl) (zaS (zax (zab (zfl (zab (zau rfl (zau rfl rfl rfl rfl rfl fp) rfl rfl rfl rfl) (zab rfl rfl rfl) rfl) rfl rfl) (zab (zau rfl rfl rfl rfl rfl fm) (zab (zau rfl rfl rfl rfl rfl mu) rfl rfl) rfl) rfl) rfl (nlq rfl) rfl) rfl)) rfl)
 split<;>omega
theorem zoh {n:Int} (h0:0 < n) (h1:n < 1267650600228229401496703205376):0<=(Builtin.Int.intBits n:Int) / 30/\(Builtin.Int.intBits n:Int) / 30<=3:=by
 have:Builtin.Int.intBits n<=100:=by
  unfold Builtin.Int.intBits;split
  .omega
  .rename_i hz
   have:n.natAbs.log2 < 100:=(Nat.log2_lt ∅).mpr (by
    have:n.natAbs < 1267650600228229401496703205376:=by omega
    exact this)
   omega
 omega
theorem zlJ {a b c n:Int} {K:Nat} (hK:K<=4) (b0:0<=b) (b1:b < 2147483647) (c0:0<=c) (c1:c<=3000000000000000000):∃(N c':Int) (z:O),forF (gtN 4) zca (rngO 0 K) [.l [⇑a,⇑b,⇑c],⇑n,.z,⇑0,.z]=.nx [.l [⇑a,⇑b,⇑c'],⇑n,.z,⇑N,z]/\c<=c'/\c'<=c+4:=by
 obtain ⟨ρ',e,N,c',z,rfl,hc0,hc1⟩:=zcp (G:=gtN 4) (S:=zca) (items:=rngO 0 K) (ρ:=[.l [⇑a,⇑b,⇑c],⇑n,.z,⇑0,.z])
   (fun i ρ=>∃(N c':Int) (z:O),ρ=[.l [⇑a,⇑b,⇑c'],⇑n,.z,⇑N,z]/\c<=c'/\c'<=c+i) ⟨0,c,.z,rfl,by omega,by omega⟩ (fun i x ρ hx hx__=>by
    obtain ⟨N,c',z,e,h1,h2⟩:=hx__;obtain ⟨hi,rfl⟩:=zcN hx;subst e;obtain ⟨k,ek,_,_⟩:=zmC (b:=b) (c:=c'+1) b0 b1 ∅ ∅;refine ⟨_,[.l [⇑a,⇑b,⇑(c'+1)],⇑n,.z,⇑(N * 2147483587+k),⇑(0+i)],by exact rfl, ?_,_,_,_,rfl,by omega,by omega⟩;unfold zca;simp (disch:=omega) [ixN,zgL,ek])
 rw[zcO] at hc1;exact ⟨N,c',z,e,hc0,by omega⟩
theorem zbX {p:O} {m n:Int} (hp:PuOk p m) (hm:m<=2305843009213693952) (h0:1<=n) (h1:n < 1267650600228229401496703205376):∃(r:Int) (p':O),zaj [p,⇑n]=.ok ⇑r [p']/\0<=r/\r < n/\PuOk p' (m+4):=by
 obtain ⟨a,b,c,rfl,a0,b0,b1,c0,c1⟩:=hp.ex;unfold zaj zeb
 by_cases ha:0 < a
 .have q0:=Int.emod_nonneg a (by omega:n≠0);have q1:=Int.emod_lt_of_pos a (by omega:0 < n);refine ⟨a % n,.l [⇑(a / n),⇑b,⇑c], ?_,q0,q1,⟨_,_,_,rfl,Int.ediv_nonneg a0 ∅,b0,b1,c0,by omega⟩⟩;simp (disch:=first | assumption | omega) [ixN,ha,zfb,zks]
 .have hb:=zoh (by omega:0 < n) h1;have hB:zki ⇑n=some ⇑(Builtin.Int.intBits n):=rfl;generalize (Builtin.Int.intBits n:Int)=B at hb hB;have hr:okR (1+B / 30)=true:=zdD ∅ ∅;obtain ⟨N,c',z,e,hc0,hc1⟩:=zlJ (a:=a) (b:=b) (c:=c) (n:=n) (K:=(1+B / 30).toNat) ∅ b0 b1 c0 ∅;refine ⟨N % n,.l [⇑a,⇑b,⇑c'], ?_,Int.emod_nonneg _ ∅,Int.emod_lt_of_pos _ ∅,⟨_,_,_,rfl,a0,b0,b1,by omega,by omega⟩⟩;clear h1 hm;simp -implicitDefEqProofs (disch:=first | assumption | omega) [ixN,ha,zfb,zle,-zpq,hB,ziN hr,e]
theorem zjN (a b c d lo hi:Int) {g:Int} (h0:0<=g) (h1:g < 4) (ha:lo<=a/\a<=hi) (hb:lo<=b/\b<=hi) (hc:lo<=c/\c<=hi) (hd:lo<=d/\d<=hi):∃f:Int,([⇑a,⇑b,⇑c,⇑d]:List O)[g.toNat]? = some ⇑f/\lo<=f/\f<=hi:=by
 have hg:g=0\/g=1\/g=2\/g=3:=by omega
 rcases hg with rfl | rfl | rfl | rfl
 .exact ⟨a,rfl,ha⟩
 .exact ⟨b,rfl,hb⟩
 .exact ⟨c,rfl,hc⟩
 .exact ⟨d,rfl,hd⟩
theorem zlY {p:O} {m x:Int} (hp:PuOk p m) (hm:m<=1152921504606846976) (h0:1<=x) (h1:x<=4611686018427387904):∃(r:Int) (p':O),zcb [p,⇑x]=.ok ⇑r [p']/\-(max x 30)<=r/\r<=max x 30/\PuOk p' (m+8):=by
 obtain ⟨M,hM,hx,h30,hMx⟩:∃M:Int,max x 30=M/\x<=M/\30<=M/\M<=4611686018427387904:=⟨max x 30,rfl,by omega,by omega,by omega⟩;rw[hM];clear hM;obtain ⟨g,p1,e1,g0,g1,hp1⟩:=zbX hp ∅ (n:=4) (by decide) (by decide);have key:∀f:Int,1<=f->f<=M->∃(r:Int) (p':O),zaj [p1,⇑(2 * f+1)]=.ok ⇑r [p']/\0<=r/\r < 2 * f+1/\PuOk p' (m+8):=fun f f0 f1=>by
  obtain ⟨r,p2,e2,r0,r1,hp2⟩:=zbX hp1 ∅ (n:=2 * f+1) ∅ ∅;exact ⟨r,p2,e2,r0,r1,hp2.mono ∅⟩
 obtain ⟨a,b,c,rfl⟩:=hp.sh;obtain ⟨a1,b1,c1,rfl⟩:=hp1.sh;obtain ⟨f,hf,hv0,hv1⟩:=zjN 1 4 30 x 1 M g0 g1 ⟨by decide,by omega⟩ ⟨by decide,by omega⟩ ⟨by decide,h30⟩ ⟨h0,hx⟩;obtain ⟨r,p2,e2,r0,r1,hp2⟩:=key f hv0 hv1;obtain ⟨a2,b2,c2,rfl⟩:=hp2.sh;refine ⟨r - f,.l [⇑a2,⇑b2,⇑c2], ?_,by omega,by omega,hp2⟩;have gg:∀ρ:Rho,gIx ρ (.own (.l [⇑1,⇑4,⇑30,⇑x])) g=some (.own ⇑f):=fun ρ=>zjk hf g0 g1
 have m2:fMul ⇑2 ⇑f=some ⇑(2 * f):=zii ∅ ∅;unfold zcb zdF;exact (zbn rfl (zag (zao (za6 (zax (zab rfl (zab rfl (zab rfl (zab rfl rfl rfl) rfl) rfl) rfl) rfl (nlq rfl) rfl) (zaD (zas (zab rfl (zab rfl rfl rfl) rfl) rfl e1 rfl rfl) rfl rfl) rfl (gg _)) rfl rfl) (zaS (zau (zas (zab rfl (zab (zau (zau rfl rfl rfl rfl rfl m2) rfl rfl rfl rfl rfl) rfl rfl) rfl) rfl e2 rfl rfl) rfl rfl rfl rfl rfl) rfl)) rfl)
def zbA (rs:List Road):O:=.l (rs.map fun r=>.d (zar r))
def zad (hs:List Int):O:=.l (hs.map fun h=>⇑h)
@[simp] theorem zsO (ρ:Rho):clrR [] ρ=ρ:=rfl
@[simp] theorem zqw (js:List (Option Nat)) (ρ:Rho):clrR (none::js) ρ=clrR js ρ:=rfl
@[simp] theorem zqM (i:Nat) (js:List (Option Nat)) (ρ:Rho):clrR (some i::js) ρ=clrR js (ρ.set i .z):=rfl
@[simp] theorem zrq (ρ:Rho):zdi [] ρ=[]:=rfl
@[simp] theorem zpW (js:List (Option Nat)) (ρ:Rho):zdi (none::js) ρ=.z::zdi js ρ:=rfl
@[simp] theorem zpX (i:Nat) (js:List (Option Nat)) (ρ:Rho):zdi (some i::js) ρ=(ρ[i]?).getD .z::zdi js ρ:=rfl
@[simp] theorem zp1 (r ρ:Rho):zcy [] r ρ=ρ:=by cases r<;>rfl
@[simp] theorem zpY (js:List (Option Nat)) (o:O) (r ρ:Rho):zcy (none::js) (o::r) ρ=zcy js r ρ:=rfl
@[simp] theorem zpZ (i:Nat) (js:List (Option Nat)) (o:O) (r ρ:Rho):zcy (some i::js) (o::r) ρ=zcy js r (ρ.set i o):=rfl
theorem ztU {p:O} {m:Int} (n:Nat) (ws:List O) (hp:PuOk p m) (hm:m<=1125899906842624) (hn:n<=20):∃(hs:List Int) (p':O) (q:Bool),lcF [none,some 0] (gtN 0) (gRet true) zbR (rngO 0 n) (p::ws) [] true=.ok (hs.map fun h=>⇑h) (p'::ws) q/\hs.length=n/\(∀h∈hs,-100000000<=h/\h<=100000000)/\PuOk p' (m+160):=by
 have:=zoA (js:=[none,some 0]) (G:=gtN 0) (T:=gRet true) (A:=zbR) (items:=rngO 0 n) (ρ:=p::ws) (acc:=[]) (q:=true)
  (fun i ρ acc=>∃(hs:List Int) (p':O),ρ=p'::ws/\acc=hs.map (fun h=>⇑h)/\hs.length=i/\(∀h∈hs,-100000000<=h/\h<=100000000)/\PuOk p' (m+8 * i)) ⟨[],p,rfl,rfl,rfl,by simp,by simpa using hp⟩
  (fun i x ρ acc hx hx__=>by
   obtain ⟨hs,p',e,ea,hl,hb,hp'⟩:=hx__;obtain ⟨hi,rfl⟩:=zcN hx;subst e ea;obtain ⟨r,p2,e2,r0,r1,hp2⟩:=zlY hp' ∅ (x:=100000000) (by decide) (by decide);obtain ⟨_,_,_,rfl⟩:=hp'.sh;obtain ⟨a2,b2,c2,rfl⟩:=hp2.sh;refine ⟨_,_,true,true,by simp;rfl,by simp;rfl,.inl ⟨rfl,.own ⇑r,[⇑i,.l [⇑a2,⇑b2,⇑c2]],false,⇑r,_, ?_,by simp;rfl,hs++[r],_, ?_,by simp,by simp[hl], ?_,hp2.mono ∅⟩⟩
   .unfold zbR;exact (zas (zab rfl (zab (zau rfl rfl rfl rfl rfl rfl) rfl rfl) rfl) rfl e2 rfl rfl)
   .exact rfl
   .intro h hh;rcases List.mem_append.mp hh with hh | hh
    .exact hb h hh
    .obtain rfl:=List.mem_singleton.mp hh
     omega)
 obtain ⟨os,ρ',q',e,hs,p',rfl,rfl,hl,hb,hp'⟩:=this;rw[zcO] at hl hp';exact ⟨hs,p',q',e,hl,hb,hp'.mono ∅⟩
theorem zmW {p:O} {m c:Int} {w1 w2:O} (hp:PuOk p m) (hm:m<=1125899906842624) (c0:0<=c) (c1:c<=20):∃(hs:List Int) (p':O) (q:Bool),eLC (itR1 (zaa 3)) [none,some 0] (gtN 0) (gRet true) zbR [p,w1,w2,⇑c,.z,.z,.z,.z,.z,.z]=.ok (.own (zad hs)) [p',w1,w2,⇑c,.z,.z,.z,.z,.z,.z] q/\hs.length=c.toNat/\(∀h∈hs,-100000000<=h/\h<=100000000)/\PuOk p' (m+160):=by
 have hr:okR c=true:=zdD ∅ ∅;obtain ⟨hs,p',q',e,hl,hb,hp'⟩:=ztU c.toNat [w1,w2,⇑c,.z,.z,.z,.z,.z,.z] hp hm ∅;refine ⟨hs,p',q', ?_,hl,hb,hp'⟩;obtain ⟨_,_,_,rfl⟩:=hp.sh;simp (disch:=omega) [ziN hr,e,zbZ,zad]
theorem zcZ {A B:SF} {ρ ρ':Rho} (h:A ρ=.nx ρ'):sSeq A B ρ=B ρ':=by simp[h]
theorem zli {p:O} {m:Int} {w1 w2 w3 w4 w5 w6 w7 w8 w9:O} (hp:PuOk p m) (hm:m<=1125899906842624):∃(s:Int) (p':O),(sAsg coe (eIx (zay coes .l (zac ↥0 (zac ↥0 (zac (zae [true,false] zaj (zac (zaa 0) (zac ↥4 aNil))) (zac (zae [true,false] zaj (zac (zaa 0) (zac (e2 ↥10 ↥8 fPow) aNil))) aNil))))) (zae [true,false] zaj (zac (zaa 0) (zac ↥4 aNil)))) (gtN 9)) [p,w1,w2,w3,w4,w5,w6,w7,w8,w9]=.nx [p',w1,w2,w3,w4,w5,w6,w7,w8,⇑s]/\0<=s/\s<=100000000/\PuOk p' (m+12):=by
 refine hide fun P key=>?_
 obtain ⟨a1,b1,c1,rfl⟩:=hp.sh;obtain ⟨d1,p1,e1,l1,u1,hp1⟩:=zbX hp ∅ (n:=4) (by decide) (by decide);obtain ⟨a1,b1,c1,rfl⟩:=hp1.sh;obtain ⟨d2,p2,e2,l2,u2,hp2⟩:=zbX hp1 ∅ (n:=100000000) (by decide) (by decide);obtain ⟨a1,b1,c1,rfl⟩:=hp2.sh;obtain ⟨d3,p3,e3,l3,u3,hp3⟩:=zbX hp2 ∅ (n:=4) (by decide) (by decide);obtain ⟨a1,b1,c1,rfl⟩:=hp3.sh;obtain ⟨s,hs,hv0,hv1⟩:=zjN 0 0 d1 d2 0 100000000 l3 u3 ∅ ∅ ∅ ∅;have gg:∀ρ:Rho,gIx ρ (.own (.l [⇑0,⇑0,⇑d1,⇑d2])) d3=some (.own ⇑s):=fun ρ=>zjk hs l3 u3
 have fp:fPow ⇑10 ⇑8=some ⇑100000000:=rfl;exact key ⟨s,_,by exact (zao (za6 (zax (zab rfl (zab rfl (zab (zas (zab rfl (zab rfl rfl rfl) rfl) rfl e1 rfl rfl) (zab (zas (zab rfl (zab (zau rfl rfl rfl rfl rfl fp) rfl rfl) rfl) rfl e2 rfl rfl) rfl rfl) rfl) rfl) rfl) rfl (nlq rfl) rfl) (zaD (zas (zab rfl (zab rfl rfl rfl) rfl) rfl e3 rfl rfl) rfl rfl) rfl (gg _)) rfl rfl),hv0,hv1,hp3.mono ∅⟩
theorem zpN {p w1 w2 w3 w6:O} {hs:List Int} {rs:List Road} {i j s:Int} (hi:0<=i/\i < hs.length) (hj:0<=j/\j < hs.length) (hl:rs.length<=1000):(za3 (eApp (zaa 5) (zay coes mkT (zac (zaa 7) (zac (zaa 8) (zac (e2 (e2 (eIx (zaa 4) (zaa 8)) (eIx (zaa 4) (zaa 7)) fSub) (zaa 9) fAdd) aNil)))))) [p,w1,w2,w3,zad hs,zbA rs,w6,⇑i,⇑j,⇑s]=.nx [p,w1,w2,w3,zad hs,zbA (rs++[(i,j,hs.getD j.toNat 0 - hs.getD i.toNat 0+s)]),w6,⇑i,⇑j,⇑s]:=by
 have get:∀k:Int,0<=k/\k < hs.length->hs[k.toNat]? = some (hs.getD k.toNat 0):=fun k hk=>by
  rw[List.getD_eq_getElem?_getD,List.getElem?_eq_getElem ∅];rfl
 have ei:=get i hi;have ej:=get j hj;generalize hs.getD i.toNat 0=x at *;generalize hs.getD j.toNat 0=y at *;have gi:∀ρ:Rho,ρ[4]? = some (zad hs)->gIx ρ (.at 4 []) i=some (.own ⇑x):=fun ρ z=>zg7 (by rw[List.getElem?_map,ei];rfl) hi.1 (by simpa using hi.2) z
 have gj:∀ρ:Rho,ρ[4]? = some (zad hs)->gIx ρ (.at 4 []) j=some (.own ⇑y):=fun ρ z=>zg7 (by rw[List.getElem?_map,ej];rfl) hj.1 (by simpa using hj.2) z
 have hl':(rs.map fun r=>O.d (zar r)).length < sizeLine:=zd4 (by simp;omega);have hm':zbA (rs++[(i,j,y - x+s)])=.l (rs.map (fun r=>.d (zar r))++[.d (.tuple [.int i,.int j,.int (y - x+s)])]):=by
  unfold zbA zar;simp
 rw[hm'];exact (zaW (zdZ rfl rfl (zax (zab rfl (zab rfl (zab (zau (zau (za6 rfl (zaD rfl rfl rfl) rfl (gj _ rfl)) (za6 rfl (zaD rfl rfl rfl) rfl (gi _ rfl)) rfl rfl rfl rfl) rfl rfl rfl rfl rfl) rfl rfl) rfl) rfl) rfl (nlq rfl) rfl) rfl rfl (zbQ rfl hl')))
@[simp] theorem znu (a b:Int):fEq false ⇑a ⇑b=some (.d (.bool (a==b))):=by
 exact rfl
@[simp] theorem zuE (a b:Int):fEq true ⇑a ⇑b=some (.d (.bool (!(a==b)))):=by
 exact rfl
theorem zng {p:O} {m:Int} {w1 w2 w3 w4 w6 w7 w8 w9:O} {rs:List Road} (hp:PuOk p m) (hm:m<=1125899906842624) (hl:rs.length<=1000) (hn:0 < rs.length):∃(rs':List Road) (p':O),(sIf (tst (e2 (zae [true,false] zaj (zac (zaa 0) (zac ↥8 aNil))) ↥0 (fEq false))) (za3 (eApp (zaa 5) (eIx (zaa 5) (zae [true,false] zaj (zac (zaa 0) (zac (eB (zac (zaa 5) aNil) (f1 fLen)) aNil)))))) sNil) [p,w1,w2,w3,w4,zbA rs,w6,w7,w8,w9]=.nx [p',w1,w2,w3,w4,zbA rs',w6,w7,w8,w9]/\rs'.length<=rs.length+1/\(∀r∈rs',r∈rs)/\PuOk p' (m+8):=by
 obtain ⟨a1,b1,c1,rfl⟩:=hp.sh;obtain ⟨d1,p1,e1,l1,u1,hp1⟩:=zbX hp ∅ (n:=8) (by decide) (by decide);obtain ⟨a1,b1,c1,rfl⟩:=hp1.sh
 by_cases h:d1=0
 .subst h;obtain ⟨d2,p2,e2,l2,u2,hp2⟩:=zbX hp1 ∅ (n:=rs.length) ∅ ∅;obtain ⟨a1,b1,c1,rfl⟩:=hp2.sh;have er:rs[d2.toNat]? = some (rs.getD d2.toNat (0,0,0)):=by
   rw[List.getD_eq_getElem?_getD,List.getElem?_eq_getElem ∅];rfl
  have hm:=List.mem_of_getElem? er;generalize rs.getD d2.toNat (0,0,0)=r at *;refine ⟨rs++[r],_, ?_,by simp, ?_,hp2.mono ∅⟩
  .have gi:∀ρ:Rho,ρ[5]? = some (zbA rs)->gIx ρ (.at 5 []) d2=some (.own (.d (zar r))):=fun ρ z=>zg7 (by rw[List.getElem?_map,er];rfl) l2 (by simpa using u2) z
   have hl':(rs.map fun r=>O.d (zar r)).length < sizeLine:=zd4 (by simp;omega);have ln:f1 fLen [zbA rs]=some ⇑(rs.length:Int):=by simp[f1,zbA,els]
   have z0:fEq false ⇑0 ⇑0=some (.d (.bool true)):=znu 0 0;have hm':zbA (rs++[r])=.l (rs.map (fun r=>.d (zar r))++[.d (zar r)]):=by
    unfold zbA;simp
   rw[hm'];exact (if_t (zaR (zau (zas (zab rfl (zab rfl rfl rfl) rfl) rfl e1 rfl rfl) rfl rfl rfl rfl z0) rfl) (zaW (zdZ rfl rfl (za6 rfl (zaD (zas (zab rfl (zab (zfl (zab rfl rfl rfl) rfl ln) rfl rfl) rfl) rfl e2 rfl rfl) rfl rfl) rfl (gi _ rfl)) rfl rfl (zbQ rfl hl'))))
  .intro x hx;rcases List.mem_append.mp hx with hx | hx
   .exact hx
   .obtain rfl:=List.mem_singleton.mp hx;exact hm
 .refine ⟨rs,_, ?_,by omega,fun r hr=>hr,hp1.mono ∅⟩;have z0:fEq false ⇑d1 ⇑0=some (.d (.bool false)):=by simp[h]
  exact (if_f (zaR (zau (zas (zab rfl (zab rfl rfl rfl) rfl) rfl e1 rfl rfl) rfl rfl rfl rfl z0) rfl) rfl)
def netO (n:Int) (rs:List Road):O:=.t [⇑n,zbA rs]
def hgt (hs:List Int) (v:Int):Int:=hs.getD v.toNat 0
structure RdOk (n:Int) (hs:List Int) (rs:List Road):Prop where
 rd:∀r∈rs,zqs n 300000000 r
 pot:Pot rs (hgt hs)
 slk:∀r∈rs,r.2.2<=hgt hs r.2.1 - hgt hs r.1+100000000
def Slk (rs:List Road):Prop:=∃h:Int->Int,(∀v,-100000000<=h v/\h v<=100000000)/\Pot rs h/\∀r∈rs,r.2.2<=h r.2.1 - h r.1+100000000
theorem zor {hs:List Int} (hb:∀h∈hs,-100000000<=h/\h<=100000000) (v:Int):-100000000<=hgt hs v/\hgt hs v<=100000000:=by
 unfold hgt;rw[List.getD_eq_getElem?_getD]
 cases e:hs[v.toNat]? with
 | none=>simp
 | some x=>exact hb x (List.mem_of_getElem? e)
theorem RdOk.add {n:Int} {hs:List Int} {rs rs':List Road} {i k s:Int} (hr:RdOk n hs rs) (hb:∀h∈hs,-100000000<=h/\h<=100000000) (hi:0<=i/\i < n) (hk:0<=k/\k < n) (h0:0<=s) (h1:s<=100000000) (m:∀r∈rs',r∈rs++[(i,k,hgt hs k - hgt hs i+s)]):RdOk n hs rs':=by
 have bi:=zor hb i;have bk:=zor hb k;refine ⟨fun r h=>?_,fun r h=>?_,fun r h=>?_⟩
 .rcases List.mem_append.mp (m r h) with h | h
  .exact hr.rd r h
  .obtain rfl:=List.mem_singleton.mp h;exact ⟨hi,hk,by dsimp only;omega,by dsimp only;omega⟩
 .rcases List.mem_append.mp (m r h) with h | h
  .exact hr.pot r h
  .obtain rfl:=List.mem_singleton.mp h;dsimp only;omega
 .rcases List.mem_append.mp (m r h) with h | h
  .exact hr.slk r h
  .obtain rfl:=List.mem_singleton.mp h;dsimp only;omega
theorem zm7 {p:O} {m c:Int} {w1 w2 w6 w7 w8 w9:O} {hs:List Int} {rs:List Road} (hp:PuOk p m) (hm:m<=1125899906842024) (c0:0 < c) (c1:c<=20) (hl:hs.length=c.toNat) (hb:∀h∈hs,-100000000<=h/\h<=100000000) (hr:RdOk c hs rs) (hn:rs.length<=900) :
  ∃(rs':List Road) (p' w7' w8' w9':O),zcl [p,w1,w2,⇑c,zad hs,zbA rs,w6,w7,w8,w9]=.nx [p',w1,w2,⇑c,zad hs,zbA rs',w6,w7',w8',w9']/\rs'.length<=rs.length+2/\RdOk c hs rs'/\PuOk p' (m+28):=by
 refine hide fun P key=>?_
 obtain ⟨x0,y0,z0,rfl⟩:=hp.sh;obtain ⟨i,p1,e1,l1,u1,hp1⟩:=zbX hp ∅ (n:=c) ∅ ∅;obtain ⟨x1,y1,z1,rfl⟩:=hp1.sh;obtain ⟨j,p2,e2,l2,u2,hp2⟩:=zbX hp1 ∅ (n:=c) ∅ ∅;obtain ⟨s,p3,e3,l3,u3,hp3⟩:=zli (w1:=w1) (w2:=w2) (w3:=⇑c) (w4:=zad hs) (w5:=zbA rs) (w6:=w6) (w7:=⇑i) (w8:=⇑j) (w9:=w9) hp2 ∅;have e4:=zpN (p:=p3) (w1:=w1) (w2:=w2) (w3:=⇑c) (w6:=w6) (hs:=hs) (rs:=rs) (i:=i) (j:=j) (s:=s) ⟨l1,by omega⟩ ⟨l2,by omega⟩ ∅;obtain ⟨rs',p5,e5,l5,m5,hp5⟩:=zng (rs:=rs++[(i,j,hs.getD j.toNat 0 - hs.getD i.toNat 0+s)]) (w1:=w1) (w2:=w2) (w3:=⇑c) (w4:=zad hs) (w6:=w6) (w7:=⇑i) (w8:=⇑j) (w9:=⇑s) hp3 ∅ (by simp;omega) (by simp);obtain ⟨x2,y2,z2,rfl⟩:=hp2.sh;refine key ⟨rs',p5,⇑i,⇑j,⇑s, ?_,by simp at l5;omega,hr.add hb ⟨l1,u1⟩ ⟨l2,u2⟩ l3 u3 m5,hp5.mono ∅⟩;unfold zcl;rw[zcZ (ρ':=[.l [⇑x1,⇑y1,⇑z1],w1,w2,⇑c,zad hs,zbA rs,w6,⇑i,w8,w9]) (zao (zas (zab rfl (zab rfl rfl rfl) rfl) rfl e1 rfl rfl) rfl rfl)];rw[zcZ (ρ':=[.l [⇑x2,⇑y2,⇑z2],w1,w2,⇑c,zad hs,zbA rs,w6,⇑i,⇑j,w9]) (zao (zas (zab rfl (zab rfl rfl rfl) rfl) rfl e2 rfl rfl) rfl rfl)];rw[zcZ e3,zcZ e4];exact e5
theorem zoo {p:O} {m:Int} {most many:Int} (hp:PuOk p m) (hm:m<=562949953421312) (a0:0<=most) (a1:most<=19) (b0:0<=many) (b1:many<=30) :
  ∃(n:Int) (rs:List Road) (p':O),zcj [p,⇑most,⇑many]=.ok (netO n rs) [p']/\NetB n 300000000 most.toNat (2 * many.toNat) rs/\Slk rs/\PuOk p' (m+2000):=by
 refine hide fun P key=>?_
 obtain ⟨x0,y0,z0,rfl⟩:=hp.sh;obtain ⟨c,p1,e1,l1,u1,hp1⟩:=zbX hp ∅ (n:=most+1) ∅ ∅;obtain ⟨hs,p2,q,e2,hl,hb,hp2⟩:=zmW (w1:=⇑most) (w2:=⇑many) (c:=c) hp1 ∅ ∅ ∅;obtain ⟨k,p3,e3,l3,u3,hp3⟩:=zbX hp2 ∅ (n:=many+1) ∅ ∅;obtain ⟨x1,y1,z1,rfl⟩:=hp1.sh;obtain ⟨x2,y2,z2,rfl⟩:=hp2.sh;obtain ⟨x3,y3,z3,rfl⟩:=hp3.sh;obtain ⟨K,hK,hmul⟩:∃K:Int,(0<=K/\K<=many/\(0 < K->0 < c))/\fMul ⇑k ⇑(if 0 < c then 1 else 0)=some ⇑K:=by
  by_cases z:0 < c
  .rw[if_pos z];exact ⟨k * 1,by omega,zii ∅ ∅⟩
  .rw[if_neg z];exact ⟨k * 0,by omega,zii ∅ ∅⟩
 obtain ⟨hK0,hK1,hK2⟩:=hK;obtain ⟨ρ',e4,rs,p4,v6,v7,v8,v9,rfl,hn,hr,hp4⟩:=zcp (G:=gtN 6) (S:=zcl) (items:=rngO 0 K.toNat) (ρ:=[.l [⇑x3,⇑y3,⇑z3],⇑most,⇑many,⇑c,zad hs,.l [],.z,.z,.z,.z])
  (fun i ρ=>∃(rs:List Road) (p4 v6 v7 v8 v9:O),ρ=[p4,⇑most,⇑many,⇑c,zad hs,zbA rs,v6,v7,v8,v9]/\rs.length<=2 * i/\RdOk c hs rs/\PuOk p4 (m+168+28 * i))
  ⟨[],_,_,_,_,_,rfl,by simp,⟨by simp,by simp[Pot],by simp⟩,hp3.mono ∅⟩
  (fun i x ρ hx hx__=>by
   obtain ⟨rs,p4,v6,v7,v8,v9,e,hn,hr,hp4⟩:=hx__;obtain ⟨hi,rfl⟩:=zcN hx;subst e;obtain ⟨rs',p',v7',v8',v9',e5,hn',hr',hp'⟩:=zm7 (w1:=⇑most) (w2:=⇑many) (w6:=⇑(0+i)) (w7:=v7) (w8:=v8) (w9:=v9) hp4 ∅ (c:=c) ∅ ∅ hl hb hr ∅;exact ⟨[p4,⇑most,⇑many,⇑c,zad hs,zbA rs,⇑(0+i),v7,v8,v9],_,by simp,e5,rs',p',_,v7',v8',v9',rfl,by omega,hr',hp'.mono ∅⟩)
 rw[zcO] at hn hp4;refine key ⟨c,rs,p4, ?_,⟨l1,by omega,by omega,hr.rd⟩,⟨hgt hs,zor hb,hr.pot,hr.slk⟩,hp4.mono ∅⟩;unfold zcj zev;have hk:okR K=true:=zdD ∅ ∅;obtain ⟨x4,y4,z4,rfl⟩:=hp4.sh;unfold netO zbA zad at *;simp (disch:=omega) [e1,e2,e3,-zpi,hmul,ziN hk,e4,zbZ];rfl
theorem Slk.taut {rs:List Road}:Slk rs->Taut rs:=fun ⟨_,_,P,_⟩=>P.taut
structure Net (n:Int) (rs:List Road):Prop where
 ok:zaw n rs
 pos:0 < n
 taut:Taut rs
@[simp] theorem zul (ds:List PyData):zgy (.d (.list ds))=some (.l (ds.map O.d)):=by
 unfold zgy;rw[show els (.d (.list ds))=some (_,ds.map O.d) from rfl];dsimp only;rw[zeE]
@[simp] theorem zs2 (ds:List PyData):zgy (.l (ds.map O.d))=some (.l (ds.map O.d)):=by
 unfold zgy;rw[show els (.l (ds.map O.d))=some (_,ds.map O.d) from rfl];dsimp only;rw[zeE]
theorem zfY (n k:Int):zbC [⇑n,⇑k]=.ok (.d (.bool (decide (0<=k/\k < n)))) []:=by
 unfold zbC zed
 by_cases h:0<=k<;>simp (disch:=omega) [h]
theorem zko {n:Int} {r:Road} (ok:znK n r):zcL [⇑n,.d (zar r)]=.ok (.d (.bool true)) []:=by
 obtain ⟨⟨h1,h2⟩,⟨h3,h4⟩,h5,h6⟩:=ok;unfold zcL zes zar;simp (disch:=omega) [zfY,h1,h2,h3,h4,h5,h6]
@[simp] theorem zu8 (b:Bool):trV (.d (.bool b))=some b:=rfl
theorem zdf:∀{ds:List PyData} {k:Nat} {i:Nat} {x:O},(zc6 k ds)[i]? = some x->∃d,ds[i]? = some d/\x=.d (.tuple [.int ((k+i:Nat):Int),d])
 | [],_,_,_,h=>by simp[zc6] at h
 | d::ds,k,0,x,h=>by
  simp[zc6] at h;exact ⟨d,rfl,by rw[<-h];simp⟩
 | d::ds,k,i+1,x,h=>by
  rw[zc6,List.getElem?_cons_succ] at h;obtain ⟨y,hy,e⟩:=zdf h;exact ⟨y,by simpa using hy,by rw[e,Nat.add_right_comm];rfl⟩
theorem zdm {n:Int} {rs:List Road} (ok:zaw n rs):zbf [.d (netD n rs)]=.ok (.d .none) []:=by
 have h0:=ok.n0;have h1:=ok.n1;have h2:¬(60:Int) < rs.length:=by have:=ok.len;omega
 obtain ⟨ρ',e,z3,z4,rfl⟩:=zcp (G:=gtT (zah (gtN 3) (zah (gtN 4) zbl))) (S:=zcC) (items:=zc6 0 (rs.map zar)) (ρ:=[.d (netD n rs),⇑n,.d (zan rs),.z,.z])
  (fun i ρ=>∃z3 z4:O,ρ=[.d (netD n rs),⇑n,.d (zan rs),z3,z4]) ⟨_,_,rfl⟩
  (fun i x ρ hx hx__=>by
   obtain ⟨z3,z4,e⟩:=hx__;subst e;obtain ⟨d,hd,rfl⟩:=zdf hx;rw[List.getElem?_map] at hd;obtain ⟨r,hr,rfl⟩:=Option.map_eq_some_iff.mp hd;have hr:=zko (ok.rd r (List.mem_of_getElem? hr));refine ⟨_,_,by exact rfl, ?_,⇑i,.d (zar r),rfl⟩;unfold zcC;simp (disch:=omega) [hr])
 unfold zbf zdW;unfold netD zan at *;simp (disch:=omega) [h0,h1,h2,e]
theorem zdt {n k:Int} {rs:List Road} (h0:0<=k) (h1:k < n):zbe [.d (netD n rs),⇑k]=.ok (.d .none) []:=by
 unfold zbe zdl netD;simp (disch:=omega) [zfY,h0,h1,ixN]
theorem zba {n k l:Int} {rs:List Road} (ok:zaw n rs) (h0:0<=k/\k < n) (h1:0<=l/\l < n):zap [.d (netD n rs),⇑k,⇑l]=.ok (.d .none) []:=by
 unfold zap zcR;simp (disch:=omega) [zdm ok,zdt h0.1 h0.2,zdt h1.1 h1.2]
def cO:Option Int->O
 | none=>.d .none
 | some x=>⇑x
def rowO (r:List (Option Int)):O:=.l (r.map cO)
def tabO (t:Tab):O:=.l (t.map rowO)
theorem zcX {n:Nat} {i:Int} (h:0<=i/\i < n):ixN n i=some i.toNat:=by unfold ixN;rw[if_pos h.1,if_pos h.2]
theorem ziA {ρ:Rho} {k a b:Nat} {t:Tab} {n:Nat} {i j:Int} (sh:Shape n t) (hk:ρ[k]? = some (tabO t)) (ha:ρ[a]? = some ⇑i) (hb:ρ[b]? = some ⇑j) (hi:0<=i/\i < n) (hj:0<=j/\j < n) :
  eIx (eIx (zaa k) (zaa a)) (zaa b) ρ=.ok (.own (cO (cell t i.toNat j.toNat))) ρ true:=by
 obtain ⟨r,e1,e2,hm⟩:=sh.at (i:=i.toNat) (j:=j.toNat) ∅ ∅;have l1:=sh.len;have l2:=sh.row r hm;have f1:gIx ρ (.at k []) i=some (.at k [i.toNat]):=by
  rw[zdS,hk];unfold tabO;simp[els,zcX (n:=t.length) (i:=i) ∅,e1,rowO,zeD]
 have vv:vw ρ (.at k [i.toNat])=some (rowO r):=by
  unfold vw;dsimp only;rw[hk];simp[tabO,sub,e1]
 have f2:gIx ρ (.at k [i.toNat]) j=some (.own (cO (cell t i.toNat j.toNat))):=by
  unfold gIx
  have:vn ρ (.at k [i.toNat])=some (rowO r):=by
   unfold vn;rw[vv];rfl
  rw[this];simp[rowO,els,zcX (n:=r.length) (i:=j) ∅,e2]
  cases cell t i.toNat j.toNat<;>rfl
 have f3:pok ρ true (.at k [i.toNat])=true:=by simp[pok,vv]
 simp[hk,ha,hb,f1,f2,f3,tabO,-zdS]
theorem zp7 {T:TF} {S U:SF} {ρ ρ':Rho} {q:Bool} (h:T ρ=.ok true ρ' q):sIf T S U ρ=S ρ':=by simp[h]
section
variable {w0 w1 w2 z4 z5 z6 z7 z8 z9:O} {t:Tab} {n:Nat}
end
theorem zgl {α β:Type} (f:β->α->β) (b:β) {l:List α} {i:Nat} {x:α} (h:l[i]? = some x):(l.take (i+1)).foldl f b=f ((l.take i).foldl f b) x:=by
 rw[List.take_succ,h,List.foldl_append];rfl
section
variable {w0 w1 w2 z4 z5 z6 z7 z8 z9:O} {n:Nat}
end
theorem zdd (l:List O):l.filter (fun _=>true)=l:=List.filter_eq_self.mpr (by simp)
def fnO (f:Int->O) (n:Nat):O:=.l ((List.range n).map fun v:Nat=>f v)
def hO (h:Int->Int) (v:Int):O:=⇑(h v)
def eO (e:Int->Option Int) (v:Int):O:=cO (e v)
theorem cO_d (o:Option Int):∃x,cO o=.d x:=by cases o<;>exact ⟨_,rfl⟩
theorem zp9 (h:Int->Int) (v x:Int):up1 (hO h) v ⇑x=hO (up1 h v x):=by
 funext y;by_cases z:y=v<;>simp[up1,hO,z]
theorem zs9 (e:Int->Option Int) (v:Int) (x:Option Int):up1 (eO e) v (cO x)=eO (up1 e v x):=by
 funext y;by_cases z:y=v<;>simp[up1,eO,z]
theorem zow {ρ:Rho} {k a:Nat} {f:Int->O} {n:Nat} {i:Int} {x:PyData} (hk:ρ[k]? = some (fnO f n)) (ha:ρ[a]? = some ⇑i) (hi:0<=i/\i < n) (hf:f i=.d x) :
  eIx (zaa k) (zaa a) ρ=.ok (.own (.d x)) ρ true:=by
 have f1:gIx ρ (.at k []) i=some (.own (.d x)):=by
  rw[zdS,hk];unfold fnO
  have:((i.toNat:Nat):Int)=i:=by omega
  have hl:i.toNat < n:=by omega
  simp[els,zcX (n:=n) (i:=i) hi,hl,this,hf,zeD]
 simp[hk,ha,f1,fnO,-zdS]
theorem zok {ρ:Rho} {k b:Nat} {f:Int->O} {n:Nat} {i:Int} {A:EF} {o:O} {r0:Rv} {q:Bool} (hA:A ρ=.ok r0 ρ q) (hc:coe ρ r0=some (o,ρ)) (hk:ρ[k]? = some (fnO f n)) (hb:ρ[b]? = some ⇑i) (hi:0<=i/\i < n) :
  sSub coe A (zaa k) (zaa b) ρ=.nx (ρ.set k (fnO (up1 f i o) n)):=by
 have f4:L2.zdG ρ (.at k []) (fun os=>(ixN os.length i).map fun z=>os.set z o)=some (ρ.set k (fnO (up1 f i o) n)):=by
  rw[ziI,hk];unfold fnO;simp only[List.length_map,List.length_range,zcX hi,Option.map_some]
  congr 3
  apply List.ext_getElem?;intro j
  by_cases e:i.toNat=j
  .subst e
   have:((i.toNat:Nat):Int)=i:=by omega
   have hl:i.toNat < n:=by omega
   simp[hl,this,up1]
  .rw[List.getElem?_set_ne e];rw[List.getElem?_map,List.getElem?_map]
   by_cases hj:j < n
   .simp[hj,up1];intro z;omega
   .simp[hj]
 simp[hA,hc,hk,hb,f4,fnO,-ziI]
theorem zkR {w0 z3 z4:O} {n:Nat} {h:Int->Int} {e:Int->Option Int} {l:Option Int} {k:Int} {r:Road} (h1:0<=r.1/\r.1 < n) (h2:0<=r.2.1/\r.2.1 < n) :
  zbJ [w0,fnO (hO h) n,fnO (eO e) n,cO l,⇑k,⇑r.1,⇑r.2.1,⇑r.2.2]=if h r.1+r.2.2 < h r.2.1 then .nx [w0,fnO (hO (up1 h r.2.1 (h r.1+r.2.2))) n,fnO (eO (up1 e r.2.1 (some k))) n,cO (some r.2.1),⇑k,⇑r.1,⇑r.2.1,⇑r.2.2] else .nx [w0,fnO (hO h) n,fnO (eO e) n,cO l,⇑k,⇑r.1,⇑r.2.1,⇑r.2.2]:=by
 have r1:=zow (ρ:=[w0,fnO (hO h) n,fnO (eO e) n,cO l,⇑k,⇑r.1,⇑r.2.1,⇑r.2.2]) (k:=1) (a:=5) (f:=hO h) (n:=n) (i:=r.1) rfl rfl h1 rfl;have r2:=zow (ρ:=[w0,fnO (hO h) n,fnO (eO e) n,cO l,⇑k,⇑r.1,⇑r.2.1,⇑r.2.2]) (k:=1) (a:=6) (f:=hO h) (n:=n) (i:=r.2.1) rfl rfl h2 rfl;unfold zbJ
 by_cases c:h r.1+r.2.2 < h r.2.1
 .rw[if_pos c,zp7 (q:=true) (ρ':=[w0,fnO (hO h) n,fnO (eO e) n,cO l,⇑k,⇑r.1,⇑r.2.1,⇑r.2.2]) (by simp[r1,r2,-zcI,c])];have w1:=zok (ρ:=[w0,fnO (hO h) n,fnO (eO e) n,cO l,⇑k,⇑r.1,⇑r.2.1,⇑r.2.2]) (k:=1) (b:=6) (f:=hO h) (n:=n) (i:=r.2.1) (A:=e2 (eIx (zaa 1) (zaa 5)) (zaa 7) fAdd) (o:=⇑(h r.1+r.2.2)) (r0:=.own ⇑(h r.1+r.2.2)) (q:=true) (by simp[r1,-zcI]) rfl rfl rfl h2;rw[zp9] at w1;rw[zcZ w1];have w2:=zok (ρ:=[w0,fnO (hO (up1 h r.2.1 (h r.1+r.2.2))) n,fnO (eO e) n,cO l,⇑k,⇑r.1,⇑r.2.1,⇑r.2.2]) (k:=2) (b:=6) (f:=eO e) (n:=n) (i:=r.2.1) (A:=zaa 4) (o:=cO (some k)) (r0:=.at 4 []) (q:=true) rfl rfl rfl rfl h2;rw[zs9] at w2;have w2':sSub coe (zaa 4) (zaa 2) (zaa 6) ([w0,fnO (hO h) n,fnO (eO e) n,cO l,⇑k,⇑r.1,⇑r.2.1,⇑r.2.2].set 1 (fnO (hO (up1 h r.2.1 (h r.1+r.2.2))) n))=_:=w2;rw[zcZ w2'];exact (zao rfl rfl rfl)
 .rw[if_neg c];simp[r1,r2,-zcI,c]
theorem zdg:∀(ds:List PyData) (k:Nat),(zc6 k ds).length=ds.length
 | [],_=>rfl
 | d::ds,k=>by rw[zc6,List.length_cons,zdg ds,List.length_cons]
theorem zhd {n:Int} {rs:List Road} (ok:zaw n rs) (b:Bf) :
  zb2 [.d (zan rs),fnO (hO b.h) n.toNat,fnO (eO b.e) n.toNat]=.ok (cO (zbt rs b).l) [fnO (hO (zbt rs b).h) n.toNat,fnO (eO (zbt rs b).e) n.toNat]:=by
 have n0:=ok.n0;obtain ⟨ρ',e,z4,z5,z6,z7,rfl⟩:=zcp (G:=gtT (zah (gtN 4) (zah (gtT (zah (gtN 5) (zah (gtN 6) (zah (gtN 7) zbl)))) zbl))) (S:=zbJ) (items:=zc6 0 (rs.map zar)) (ρ:=[.d (zan rs),fnO (hO b.h) n.toNat,fnO (eO b.e) n.toNat,.d .none,.z,.z,.z,.z])
  (fun i ρ=>∃z4 z5 z6 z7,ρ=[.d (zan rs),fnO (hO (bfTo rs b i).h) n.toNat,fnO (eO (bfTo rs b i).e) n.toNat,cO (bfTo rs b i).l,z4,z5,z6,z7]) ⟨_,_,_,_,rfl⟩
  (fun i x ρ hx hx__=>by
   obtain ⟨z4,z5,z6,z7,e⟩:=hx__;subst e;obtain ⟨d,hd,rfl⟩:=zdf hx;rw[List.getElem?_map] at hd;obtain ⟨r,hr,rfl⟩:=Option.map_eq_some_iff.mp hd;obtain ⟨⟨a1,a2⟩,⟨b1,b2⟩,_⟩:=ok.rd r (List.mem_of_getElem? hr);have st:=zkR (w0:=.d (zan rs)) (z3:=.z) (z4:=.z) (n:=n.toNat) (h:=(bfTo rs b i).h) (e:=(bfTo rs b i).e) (l:=(bfTo rs b i).l) (k:=i) (r:=r) ∅ ∅;have eb:bfTo rs b (i+1)=zh4 rs (bfTo rs b i) i:=zdY _ _ _;rw[eb];unfold zh4;rw[hr];dsimp only;refine ⟨[.d (zan rs),fnO (hO (bfTo rs b i).h) n.toNat,fnO (eO (bfTo rs b i).e) n.toNat,cO (bfTo rs b i).l,⇑i,⇑r.1,⇑r.2.1,⇑r.2.2], ?_⟩;rw[st];split
   .exact ⟨_,by simp[zar],rfl,_,_,_,_,rfl⟩
   .exact ⟨_,by simp[zar],rfl,_,_,_,_,rfl⟩)
 rw[zdg,List.length_map] at e;obtain ⟨x,hx⟩:=cO_d (zbt rs b).l;rw[show bfTo rs b rs.length=zbt rs b from rfl,hx] at e;rw[hx];unfold zb2 zdJ;unfold zan fnO at *;simp[e]
theorem zjF (x:PyData):∀k:Nat,(List.map O.d (List.replicate k [x]).flatten)=List.replicate k (O.d x)
 | 0=>rfl
 | k+1=>by rw[List.replicate_succ,List.flatten_cons,List.map_append,zjF x k];rfl
theorem zeJ {x:PyData} {c:Int} (c0:0<=c) (c1:c<=1000):fMul (.l [.d x]) ⇑c=some (.l (List.replicate c.toNat (.d x))):=by
 have z:(1:Nat) * c.toNat<=sizeLine:=zbZ ∅;unfold fMul;dsimp only[els,lds,Option.map];rw[if_pos ⟨by omega,by omega,z⟩,zjF]
theorem zfg {n:Int} {rs:List Road} (ok:zaw n rs) {w0 w1 w2:O}:∀(items:List O) (b:Bf) (z6 z7:O),(items.length=0->z6=cO b.l)->
  ∃z7',forF (gtN 7) zcP items [w0,w1,w2,.d (zan rs),fnO (hO b.h) n.toNat,fnO (eO b.e) n.toNat,z6,z7]=.nx [w0,w1,w2,.d (zan rs),fnO (hO (zcQ rs items.length b).h) n.toNat,fnO (eO (zcQ rs items.length b).e) n.toNat,cO (zcQ rs items.length b).l,z7']
 | [],b,z6,z7,h=>⟨z7,by rw[h rfl];rfl⟩
 | x::xs,b,z6,z7,_=>by
  have on:=zhd ok b;have st:zcP [w0,w1,w2,.d (zan rs),fnO (hO b.h) n.toNat,fnO (eO b.e) n.toNat,z6,x]=if (zbt rs b).l=none then .br [w0,w1,w2,.d (zan rs),fnO (hO (zbt rs b).h) n.toNat,fnO (eO (zbt rs b).e) n.toNat,cO (zbt rs b).l,x] else .nx [w0,w1,w2,.d (zan rs),fnO (hO (zbt rs b).h) n.toNat,fnO (eO (zbt rs b).e) n.toNat,cO (zbt rs b).l,x]:=by
   unfold zcP
   cases e:(zbt rs b).l with
   | none=>
    rw[e] at on;unfold fnO zan cO at *;exact (zag (zao (zas (zab rfl (zab rfl (zab rfl rfl rfl) rfl) rfl) rfl on rfl rfl) rfl rfl) (if_t (zaR (zau rfl rfl rfl rfl rfl rfl) rfl) rfl))
   | some v=>
    rw[e] at on;unfold fnO zan cO at *;exact (zag (zao (zas (zab rfl (zab rfl (zab rfl rfl rfl) rfl) rfl) rfl on rfl rfl) rfl rfl) (if_f (zaR (zau rfl rfl rfl rfl rfl rfl) rfl) rfl))
  have g:gtN 7 x [w0,w1,w2,.d (zan rs),fnO (hO b.h) n.toNat,fnO (eO b.e) n.toNat,z6,z7]=some [w0,w1,w2,.d (zan rs),fnO (hO b.h) n.toNat,fnO (eO b.e) n.toNat,z6,x]:=by simp
  by_cases e:(zbt rs b).l=none
  .rw[if_pos e] at st;refine ⟨x, ?_⟩;rw[forF,g];dsimp only;rw[st];dsimp only;rw[List.length_cons,zcQ,if_pos e]
  .rw[if_neg e] at st;obtain ⟨z7',ih⟩:=zfg ok xs (zbt rs b) (cO (zbt rs b).l) x fun _=>rfl
   refine ⟨z7', ?_⟩;rw[forF,g];dsimp only;rw[st];dsimp only;rw[List.length_cons,zcQ,if_neg e];exact ih
def hsD (n:Nat) (s:Int->Int):PyData:=.list ((List.range n).map fun v:Nat=>.int (s v))
theorem zmV {n:Int} {rs:List Road} (ok:zaw n rs) (s:Int->Int) :
  zb1 [.d (netD n rs),.d (hsD n.toNat s)]=.ok (.t [fnO (hO (zaE n.toNat rs s).h) n.toNat,fnO (eO (zaE n.toNat rs s).e) n.toNat,cO (zaE n.toNat rs s).l]) []:=by
 have n0:=ok.n0;have n1:=ok.n1;have hr:okR n=true:=zdD ∅ ∅;obtain ⟨z7,e⟩:=zfg ok (w0:=.d (netD n rs)) (w1:=.d (hsD n.toNat s)) (w2:=⇑n) (rngO 0 n.toNat) ⟨s,fun _=>none,none⟩ (.d .none) .z (fun _=>rfl);rw[zcO,show zcQ rs n.toNat ⟨s,fun _=>none,none⟩=zaE n.toNat rs s from rfl] at e;have b1:fnO (hO s) n.toNat=.l (((List.range n.toNat).map fun v:Nat=>PyData.int (s v)).map O.d):=by
  unfold fnO;rw[List.map_map];rfl
 have b2:fnO (eO fun _=>none) n.toNat=.l (List.replicate n.toNat (.d .none)):=by
  unfold fnO eO cO;rw[List.map_const'];simp
 dsimp only at e;rw[b1,b2] at e;obtain ⟨x,hx⟩:=cO_d (zaE n.toNat rs s).l;rw[hx] at e ⊢;unfold zb1 zd6;unfold fnO netD zan hsD at *;simp (disch:=omega) [e,ziN hr,zeJ,zbZ,-List.map_map];rfl
@[simp] theorem zut (k:Nat) (x:PyData):fz (.l (List.replicate k (.d x)))=some (.list (List.replicate k x)):=by
 have:=zfF (List.replicate k x)
 rwa [List.map_replicate] at this
theorem zhV (n:Nat) (a:Int):fnO (hO fun _=>a) n=.l (List.replicate n ⇑a):=by
 unfold fnO hO;rw[List.map_const'];simp
theorem zt1 (n:Nat) (h:Int->Int):fz (fnO (hO h) n)=some (hsD n h):=by
 unfold fnO hO hsD
 have:=zfF ((List.range n).map fun v:Nat=>PyData.int (h v))
 rw[List.map_map] at this;exact this
theorem zma {n:Int} {rs:List Road} (ok:zaw n rs) (s:Int->Int) :
  zb1 [.d (netD n rs),fnO (hO s) n.toNat]=.ok (.t [fnO (hO (zaE n.toNat rs s).h) n.toNat,fnO (eO (zaE n.toNat rs s).e) n.toNat,cO (zaE n.toNat rs s).l]) []:=by
 have n0:=ok.n0;have n1:=ok.n1;have hr:okR n=true:=zdD ∅ ∅;obtain ⟨z7,e⟩:=zfg ok (w0:=.d (netD n rs)) (w1:=.l (((List.range n.toNat).map fun v:Nat=>PyData.int (s v)).map O.d)) (w2:=⇑n) (rngO 0 n.toNat) ⟨s,fun _=>none,none⟩ (.d .none) .z (fun _=>rfl);rw[zcO,show zcQ rs n.toNat ⟨s,fun _=>none,none⟩=zaE n.toNat rs s from rfl] at e;have b1:fnO (hO s) n.toNat=.l (((List.range n.toNat).map fun v:Nat=>PyData.int (s v)).map O.d):=by
  unfold fnO;rw[List.map_map];rfl
 have b2:fnO (eO fun _=>none) n.toNat=.l (List.replicate n.toNat (.d .none)):=by
  unfold fnO eO cO;rw[List.map_const'];simp
 dsimp only at e;rw[b1,b2] at e;rw[b1];obtain ⟨x,hx⟩:=cO_d (zaE n.toNat rs s).l;rw[hx] at e ⊢;unfold zb1 zd6;unfold fnO netD zan at *;simp (disch:=omega) [e,ziN hr,zeJ,zbZ,-List.map_map];rfl
theorem zb6 {n:Int} {rs:List Road} (N:zaw n rs) (T:Taut rs):zaT [.d (netD n rs)]=.ok (.d .none) []:=by
 have n0:=N.n0;have n1:=N.n1;have lo:=zma N (fun _=>0);rw[(zda N T _).1,zhV] at lo;unfold zaT zdN;unfold fnO netD cO at *;exact (znM rfl (zag (zao (zas (zab rfl (zab (zau (zax (zab rfl rfl rfl) rfl (nlq rfl) rfl) (za6 rfl (zaD rfl rfl rfl) rfl rfl) rfl rfl rfl (zeJ n0 ∅)) rfl rfl) rfl) rfl lo rfl rfl) rfl rfl) (if_f (zaR (zau rfl rfl rfl rfl rfl rfl) rfl) rfl)) rfl)
theorem zeW {n one:Int} {rs:List Road} (N:zaw n rs) (h1:0<=one/\one < n) :
  zbD [.d (netD n rs),⇑one]=.ok (.t [fnO (hO (zaE n.toNat rs (farS one 40000000000)).h) n.toNat,fnO (eO (zaE n.toNat rs (farS one 40000000000)).e) n.toNat]) []:=by
 have n0:=N.n0;have n1:=N.n1;have lo:=zmV N (farS one 40000000000);obtain ⟨x,hx⟩:=cO_d (zaE n.toNat rs (farS one 40000000000)).l;rw[hx] at lo;unfold zbD zdI;have b1:(sAsg coe (e2 (zay coes .l (zac ↥(40000000000) aNil)) (eIx (zaa 0) ↥0) fMul) (gtN 2)) [.d (netD n rs),⇑one,.z,.z,.z,.z]=.nx [.d (netD n rs),⇑one,fnO (hO fun _=>40000000000) n.toNat,.z,.z,.z]:=by
  rw[zhV];unfold netD;exact (zao (zau (zax (zab rfl rfl rfl) rfl (nlq rfl) rfl) (za6 rfl (zaD rfl rfl rfl) rfl rfl) rfl rfl rfl (zeJ n0 ∅)) rfl rfl)
 have b2:=zok (ρ:=[.d (netD n rs),⇑one,fnO (hO fun _=>40000000000) n.toNat,.z,.z,.z]) (k:=2) (b:=1) (i:=one) (A:=↥0) (o:=⇑0) (r0:=.own ⇑0) (q:=true) rfl rfl rfl rfl ∅;rw[zp9] at b2;have b2':sSub coe ↥0 (zaa 2) (zaa 1) [.d (netD n rs),⇑one,fnO (hO fun _=>40000000000) n.toNat,.z,.z,.z]=.nx [.d (netD n rs),⇑one,fnO (hO (farS one 40000000000)) n.toNat,.z,.z,.z]:=b2;simp only[zmy,List.length_cons,List.length_nil,List.cons_append,List.nil_append,List.replicate];rw[zcZ b1,zcZ b2'];have fz':=zt1 n.toNat (farS one 40000000000);generalize hsD n.toNat (farS one 40000000000)=W at *;generalize (zaE n.toNat rs (farS one 40000000000))=b at *;unfold fnO at *;simp (disch:=omega) [lo,zbZ,fz'];rfl
theorem zce (R:List Int):fz (zad R)=some (.list (R.map .int)):=by
 unfold zad
 have:=zfF (R.map PyData.int)
 rw[List.map_map] at this;exact this
theorem zfT (R:List Int):SeqAt.shaped (.list (R.map PyData.int))=true:=by
 have h:∀R:List Int,PyData.canLayAll0 (R.map PyData.int)=true/\PyData.depthAll (R.map PyData.int)<=1:=by
  intro R
  induction R with
  | nil=>simp[PyData.canLayAll0,PyData.depthAll]
  | cons x xs ih=>simp[PyData.canLayAll0,PyData.depthAll,PyData.canLay0,PyData.depth,ih]
 simp[SeqAt.shaped,PyData.canLay0,PyData.depth,(h R).1]
 have:=(h R).2
 omega
theorem zoB (R:List Int) (v:Int):((R.map PyData.int).any fun y=>PyData.eqv y (.int v))=decide (v∈R):=by
 induction R with
 | nil=>simp
 | cons x xs ih=>
  rw[List.map_cons,List.any_cons,ih]
  by_cases h:x=v
  .subst h;simp[PyData.eqv]
  .have h':¬v=x:=fun z=>h z.symm
   simp[PyData.eqv,h,h']
theorem zhm (b:Bool) (R:List Int) (v:Int):fIn b ⇑v (zad R)=some (.d (.bool (if b then !decide (v∈R) else decide (v∈R)))):=by
 unfold fIn;rw[zce,fz_d];dsimp only;rw[zfT,zoB];exact rfl
def zci (p:Int) (R:List Int) (r:Road):List Int:=if r.1=p/\r.2.1∉R then R++[r.2.1] else R
theorem zgG (p:Int) (R:List Int) (r:Road):∃X,zci p R r=R++X:=by
 unfold zci;split
 .exact ⟨_,rfl⟩
 .exact ⟨[],by simp⟩
structure Rc1 (n:Int) (rs:List Road) (one:Int) (R:List Int):Prop where
 nd:R.Nodup
 rg:∀v∈R,0<=v/\v < n
 wk:∀v∈R,∃L,Wk rs one v L
theorem Rc1.len {n one:Int} {rs:List Road} {R:List Int} (h:Rc1 n rs one R):R.length<=n.toNat:=
 zkN h.nd fun x hx=>by have:=h.rg x hx;omega
theorem Rc1.step {n one p:Int} {rs:List Road} {R:List Int} (ok:zaw n rs) (h:Rc1 n rs one R) (hp:p∈R) {r:Road} (hr:r∈rs):Rc1 n rs one (zci p R r):=by
 unfold zci;split
 .rename_i c;refine ⟨?_,fun v hv=>?_,fun v hv=>?_⟩
  .rw[List.nodup_append];exact ⟨h.nd,by simp,fun a ha b hb=>by
    obtain rfl:=List.mem_singleton.mp hb;intro e;exact c.2 (e ▸ ha)⟩
  .rcases List.mem_append.mp hv with hv | hv
   .exact h.rg v hv
   .obtain rfl:=List.mem_singleton.mp hv;exact (ok.rd r hr).2.1
  .rcases List.mem_append.mp hv with hv | hv
   .exact h.wk v hv
   .obtain rfl:=List.mem_singleton.mp hv;obtain ⟨L,w⟩:=h.wk p hp;have w2:Wk rs r.1 r.2.1 (r.2.2+0):=.cons hr (.nil _);rw[c.1] at w2;exact ⟨_,w.trans w2⟩
 .exact h
theorem zka {w0 w1 z6:O} {R:List Int} {a p:Int} {r:Road} (ha:0<=a/\a < R.length) (hp:R[a.toNat]? = some p) (hl:R.length<=1000) :
  zbk [w0,w1,zad R,⇑a,⇑r.1,⇑r.2.1,z6]=.nx [w0,w1,zad (zci p R r),⇑a,⇑r.1,⇑r.2.1,z6]:=by
 have rd:eIx (zaa 2) (zaa 3) [w0,w1,zad R,⇑a,⇑r.1,⇑r.2.1,z6]=.ok (.own ⇑p) [w0,w1,zad R,⇑a,⇑r.1,⇑r.2.1,z6] true:=by
  unfold zad;simp (disch:=omega) [ixN,ha.1,ha.2,hp,-getElem?_pos]
 have fi:=zhm true R r.2.1;unfold zbk zci
 by_cases c1:r.1=p
 .have c1':(r.1==p)=true:=by simp[c1]
  by_cases c2:r.2.1∈R
  .rw[if_neg (by simp[c2])];unfold zad at *;simp (disch:=omega) [rd,-zcI,c1',fi,c2,-beq_iff_eq]
  .rw[if_pos ⟨c1,c2⟩];unfold zad at *;simp (disch:=omega) [rd,-zcI,c1',fi,c2,zd4,-beq_iff_eq]
 .rw[if_neg (by simp[c1])];unfold zad at *;simp (disch:=omega) [rd,-zcI,c1]
theorem zju (p:Int):∀(rs:List Road) (R:List Int),∃X,rs.foldl (zci p) R=R++X
 | [],R=>⟨[],by simp⟩
 | r::rs,R=>by
  obtain ⟨X,hX⟩:=zgG p R r;obtain ⟨Y,hY⟩:=zju p rs (zci p R r);exact ⟨X++Y,by rw[List.foldl_cons,hY,hX,List.append_assoc]⟩
theorem zkK {n one p:Int} {rs:List Road} (ok:zaw n rs):∀(l:List Road) (R:List Int),(∀r∈l,r∈rs)->Rc1 n rs one R->p∈R->Rc1 n rs one (l.foldl (zci p) R)
 | [],R,_,h,_=>h
 | r::l,R,hl,h,hp=>by
  rw[List.foldl_cons];refine zkK ok l _ (fun x hx=>hl x (List.mem_cons_of_mem _ hx)) (h.step ok hp (hl r List.mem_cons_self)) ?_;obtain ⟨X,hX⟩:=zgG p R r;rw[hX];exact List.mem_append_left _ hp
theorem znW {p:Int}:∀(l:List Road) (R:List Int),∀r∈l,r.1=p->r.2.1∈l.foldl (zci p) R
 | r::l,R,x,hx,e=>by
  rw[List.foldl_cons];rcases List.mem_cons.mp hx with rfl | hx
  .obtain ⟨Y,hY⟩:=zju p l (zci p R x);rw[hY];refine List.mem_append_left _ ?_;unfold zci
   by_cases c:x.2.1∈R
   .rw[if_neg (by simp[c])];exact c
   .rw[if_pos ⟨e,c⟩];simp
  .exact znW l _ x hx e
theorem zij {n one:Int} {rs:List Road} (ok:zaw n rs) {w1 z4 z5 z6:O} {R:List Int} {a p:Int} (h:Rc1 n rs one R) (ha:0<=a/\a < R.length) (hp:R[a.toNat]? = some p) :
  ∃z4' z5' z6',zbi [.d (netD n rs),w1,zad R,⇑a,z4,z5,z6]=.nx [.d (netD n rs),w1,zad (rs.foldl (zci p) R),⇑(a+1),z4',z5',z6']:=by
 have hpm:=List.mem_of_getElem? hp;have n1:=ok.n1;obtain ⟨ρ',e,z4',z5',z6',rfl⟩:=zcp (G:=gtT (zah (gtN 4) (zah (gtN 5) (zah (gtN 6) zbl)))) (S:=zbk) (items:=(rs.map zar).map O.d) (ρ:=[.d (netD n rs),w1,zad R,⇑a,z4,z5,z6])
  (fun i ρ=>∃z4' z5' z6',ρ=[.d (netD n rs),w1,zad ((rs.take i).foldl (zci p) R),⇑a,z4',z5',z6']) ⟨_,_,_,rfl⟩
  (fun i x ρ hx hx__=>by
   obtain ⟨z4',z5',z6',e⟩:=hx__;subst e;rw[List.map_map,List.getElem?_map] at hx;obtain ⟨r,hr,rfl⟩:=Option.map_eq_some_iff.mp hx;obtain ⟨X,hX⟩:=zju p (rs.take i) R;have hI:=zkK (p:=p) ok (rs.take i) R (fun r hr=>List.mem_of_mem_take hr) h hpm;have hl:=hI.len;have hp':((rs.take i).foldl (zci p) R)[a.toNat]? = some p:=by
    rw[hX,List.getElem?_append_left ∅];exact hp
   have ll:R.length<=((rs.take i).foldl (zci p) R).length:=by rw[hX];simp
   have st:=zka (w0:=.d (netD n rs)) (w1:=w1) (z6:=⇑r.2.2) (a:=a) (p:=p) (r:=r) (R:=(rs.take i).foldl (zci p) R) ∅ hp' ∅;refine ⟨_,_,by simp[zar],st,⇑r.1,⇑r.2.1,⇑r.2.2, ?_⟩;rw[zgl (zci p) _ hr])
 rw[List.length_map,List.length_map,List.take_length,List.map_map] at e;refine ⟨z4',z5',z6', ?_⟩;unfold zbi;unfold netD zan zad at *;simp[e,ixN];rfl
def Clo (rs:List Road) (R:List Int) (a:Nat):Prop:=∀i p,i < a->R[i]? = some p->∀r∈rs,r.1=p->r.2.1∈R
theorem zkc {n:Int} {rs:List Road} {w1 z4 z5 z6:O} (R:List Int) (a:Nat):zbj [.d (netD n rs),w1,zad R,⇑a,z4,z5,z6]=.ok (decide (a < R.length)) [.d (netD n rs),w1,zad R,⇑a,z4,z5,z6] true:=by
 unfold zbj zad;simp
structure zou (n:Int) (rs:List Road) (one:Int) (T:TF) (S:SF) (l:Nat):Prop where
 tst:∀(w1:O) (R:List Int) (a:Nat) (zs:List O),zs.length=l->T (.d (netD n rs)::w1::zad R::⇑a::zs)=.ok (decide (a < R.length)) (.d (netD n rs)::w1::zad R::⇑a::zs) true
 rnd:∀(w1:O) (R:List Int) (a p:Int) (zs:List O),zs.length=l->Rc1 n rs one R->(0<=a/\a < R.length)->R[a.toNat]? = some p->∃zs',zs'.length=l/\S (.d (netD n rs)::w1::zad R::⇑a::zs)=.nx (.d (netD n rs)::w1::zad (rs.foldl (zci p) R)::⇑(a+1)::zs')
theorem ziG {n one:Int} {rs:List Road} (ok:zaw n rs) {T:TF} {S:SF} {l:Nat} (lp:zou n rs one T S l) {w1:O} (k:Nat):∀(R:List Int) (a:Nat) (zs:List O),zs.length=l->n.toNat<=k+a->a<=R.length->Rc1 n rs one R->Clo rs R a->
  ∃(R':List Int) (z:O) (zs':List O),zbw T S (k+1) (.d (netD n rs)::w1::zad R::⇑a::zs)=.nx (.d (netD n rs)::w1::zad R'::z::zs')/\zs'.length=l/\Rc1 n rs one R'/\Clo rs R' R'.length/\∃X,R'=R++X:=by
 induction k with
 | zero=>
  intro R a zs hz hk ha h hc;have hl:=h.len;have c:¬a < R.length:=by omega
  refine ⟨R,⇑a,zs, ?_,hz,h, ?_,[],by simp⟩
  .rw[zbw,lp.tst w1 R a zs hz,decide_eq_false c]
  .have:R.length=a:=by omega
   rw[this];exact hc
 | succ k ih=>
  intro R a zs hz hk ha h hc
  by_cases c:a < R.length
  .have hp:R[((a:Int)).toNat]? = some R[a]:=by simp[c]
   obtain ⟨us,hu,e⟩:=lp.rnd w1 R a R[a] zs hz h ⟨by omega,by omega⟩ hp;obtain ⟨X,hX⟩:=zju R[a] rs R;have hI:=zkK (p:=R[a]) ok rs R (fun r hr=>hr) h (List.getElem_mem c);have hC:Clo rs (rs.foldl (zci R[a]) R) (a+1):=fun i p hi hp r hr e=>by
    by_cases z:i=a
    .subst z;rw[hX,List.getElem?_append_left c,List.getElem?_eq_getElem c] at hp;cases hp;exact znW rs R r hr e
    .rw[hX];rw[hX,List.getElem?_append_left ∅] at hp;exact List.mem_append_left _ (hc i p ∅ hp r hr e)
   obtain ⟨R',z,zs',e2,l2,i2,c2,Y,hY⟩:=ih (rs.foldl (zci R[a]) R) (a+1) us hu ∅ (by rw[hX];simp;omega) hI hC;refine ⟨R',z,zs', ?_,l2,i2,c2,X++Y,by rw[hY,hX,List.append_assoc]⟩;rw[zbw,lp.tst w1 R a zs hz,decide_eq_true c];dsimp only;rw[e];exact e2
  .refine ⟨R,⇑a,zs, ?_,hz,h, ?_,[],by simp⟩
   .rw[zbw,lp.tst w1 R a zs hz,decide_eq_false c]
   .have:R.length=a:=by omega
    rw[this];exact hc
theorem zm4 {n one:Int} {rs:List Road} (ok:zaw n rs):zou n rs one zbj zbi 3 where
 tst w1 R a zs hz:=by
  match zs,hz with
  | [z4,z5,z6],_=>exact zkc R a
 rnd w1 R a p zs hz h ha hp:=by
  match zs,hz with
  | [z4,z5,z6],_=>
   obtain ⟨u4,u5,u6,e⟩:=zij ok (w1:=w1) (z4:=z4) (z5:=z5) (z6:=z6) h ha hp;exact ⟨[u4,u5,u6],rfl,e⟩
theorem zro {rs:List Road} {R:List Int} (hc:Clo rs R R.length):∀{p q L:Int},Wk rs p q L->p∈R->q∈R:=by
 intro p q L w
 induction w with
 | nil p=>exact id
 | cons hr _ ih=>
  intro hp;obtain ⟨i,hi,e⟩:=List.getElem_of_mem hp;exact ih (hc i _ hi (by rw[List.getElem?_eq_getElem hi,e]) _ hr rfl)
theorem zi9:∀R:List Int,dIs (R.map PyData.int)=some R
 | []=>rfl
 | x::xs=>by rw[List.map_cons,dIs,zi9 xs];rfl
theorem zhI (R:List Int):zsOf (zad R)=some R:=by
 unfold zsOf;rw[zce];exact zi9 R
theorem zhA {R:List Int} (h:R.length < 64):zf6 (zad R)=some (zad (zdh R)):=by
 unfold zf6;rw[zhI];dsimp only;rw[if_pos h];rfl
structure Rch (n:Int) (rs:List Road) (one:Int) (R:List Int):Prop where
 nd:R.Nodup
 len:R.length<=n.toNat
 mem:∀v,v∈R↔∃L,Wk rs one v L
theorem zlK {n one:Int} {rs:List Road} (ok:zaw n rs) (h1:0<=one/\one < n) {T:TF} {S:SF} {l:Nat} (lp:zou n rs one T S l) (zs:List O) (hz:zs.length=l):∃(R:List Int) (z:O) (zs':List O),zdz T S (.d (netD n rs)::⇑one::zad [one]::⇑0::zs)=.nx (.d (netD n rs)::⇑one::zad R::z::zs')/\zs'.length=l/\Rch n rs one R:=by
 have n1:=ok.n1;have c0:Rc1 n rs one [one]:=⟨by simp,fun v hv=>by obtain rfl:=List.mem_singleton.mp hv;exact h1,fun v hv=>by obtain rfl:=List.mem_singleton.mp hv;exact ⟨0,.nil _⟩⟩;obtain ⟨R,z,zs',e,l,hI,hC,X,hX⟩:=ziG ok lp (w1:=⇑one) n.toNat [one] 0 zs hz ∅ (by simp) c0 (fun i p hi=>by omega);exact ⟨R,z,zs',zf9 e (by intro z;cases z),l,hI.nd,hI.len,fun v=>⟨hI.wk v,fun ⟨L,w⟩=>zro hC w (by rw[hX];simp)⟩⟩
theorem zdr {n one:Int} {rs:List Road} (ok:zaw n rs) (h1:0<=one/\one < n):∃R:List Int,zaY [.d (netD n rs),⇑one]=.ok (zad (zdh R)) []/\Rch n rs one R:=by
 have n1:=ok.n1;obtain ⟨R,z,zs',e2,l,hR⟩:=zlK ok h1 (zm4 ok) [.z,.z,.z] rfl;have hl:=hR.len;have so:=zhA (R:=R) ∅;refine ⟨R, ?_,hR⟩
 match zs',l with
 | [b,c,d],_=>
 unfold zaY zcY;unfold zad at *;rw[List.map_singleton] at e2;simp (disch:=omega) [zbZ,e2,so]
theorem ze3 {n one:Int} {rs:List Road} (ok:zaw n rs) (h1:0<=one/\one < n) :
  ∃S:List Int,zaY [.d (netD n rs),⇑one]=.ok (zad S) []/\(∀v,v∈S↔∃L,Wk rs one v L):=by
 obtain ⟨R,e,h⟩:=zdr ok h1;exact ⟨_,e,fun v=>(zej R).mem_iff.trans (h.mem v)⟩
def tC (n:Int) (rs:List Road) (one v:Int):Option Int:=cell (zaq n.toNat rs) one.toNat v.toNat
theorem zuc {n one v:Int} {rs:List Road} (N:Net n rs) (h1:0<=one/\one < n) (hv:0<=v/\v < n) :
  ((∃L,Wk rs one v L)->tC n rs one v=some ((zaE n.toNat rs (farS one 40000000000)).h v))/\(¬(∃L,Wk rs one v L)->tC n rs one v=none):=by
 refine ⟨fun ⟨L,w⟩=>?_,fun h=>?_⟩
 .obtain ⟨ws,_,_,_,d,e,_⟩:=zjs N.ok N.taut hv w;rw[e];exact (zeG N.ok N.taut h1 hv).mpr d
 .exact (zeH N.ok N.taut h1 hv).mpr fun L w=>h ⟨L,w⟩
theorem zbW {n one:Int} {rs:List Road} (N:Net n rs) (h1:0<=one/\one < n) :
  zaO [.d (netD n rs),⇑one]=.ok (fnO (eO (tC n rs one)) n.toNat) []:=by
 have n1:=N.ok.n1;have hr:okR n=true:=zdD ∅ ∅;have lf:=zeW N.ok h1;obtain ⟨S,pr,hS⟩:=ze3 N.ok h1;obtain ⟨q,e⟩:=zd8 (js:=[none,some 4,some 2]) (G:=gtN 0) (T:=gRet true) (A:=zb0)
  (ρ:=[.d (netD n rs),⇑one,fnO (hO (zaE n.toNat rs (farS one 40000000000)).h) n.toNat,fnO (eO (zaE n.toNat rs (farS one 40000000000)).e) n.toNat,zad S])
  (fun _=>true) (fun o=>match o with | ⇑v=>eO (tC n rs one) v | _=>.z) (items:=rngO 0 n.toNat) (acc:=[]) (q:=true) (fun y hy=>by
   obtain ⟨i,hi⟩:=List.getElem?_of_mem hy;obtain ⟨hi,rfl⟩:=zcN hi;have tq:=zuc N h1 (v:=0+i) ∅;have fi:=zhm false S (0+i);have rd:=zow (ρ:=[⇑(0+i),zad S,fnO (hO (zaE n.toNat rs (farS one 40000000000)).h) n.toNat]) (k:=2) (a:=0) (f:=hO (zaE n.toNat rs (farS one 40000000000)).h) (n:=n.toNat) (i:=0+i) rfl rfl ∅ rfl;refine ⟨[⇑(0+i),zad S,fnO (hO (zaE n.toNat rs (farS one 40000000000)).h) n.toNat],[⇑(0+i),zad S,fnO (hO (zaE n.toNat rs (farS one 40000000000)).h) n.toNat],true,by simp,by simp,fun _=>?_,fun h=>by cases h⟩;refine ⟨.own (eO (tC n rs one) (0+i)),[⇑(0+i),zad S,fnO (hO (zaE n.toNat rs (farS one 40000000000)).h) n.toNat],true,[⇑(0+i),zad S,fnO (hO (zaE n.toNat rs (farS one 40000000000)).h) n.toNat], ?_, ?_,by simp⟩
   .unfold zb0
    by_cases c:(0+(i:Int))∈S
    .rw[show eO (tC n rs one) (0+i)=_ from congrArg cO (tq.1 ((hS _).mp c))];unfold zad fnO at *;simp[fi,c,rd,-zcI,cO,-Int.zero_add]
    .rw[show eO (tC n rs one) (0+i)=_ from congrArg cO (tq.2 fun z=>c ((hS _).mpr z))];unfold zad fnO at *;simp[fi,c,rd,-zcI,cO,-Int.zero_add]
   .show coe _ (.own (eO (tC n rs one) (0+i)))=some (eO (tC n rs one) (0+i),_)
    obtain ⟨x,hx⟩:=cO_d (tC n rs one (0+i));unfold eO;rw[hx];simp)
 have er:((rngO 0 n.toNat).map fun o=>match o with | ⇑v=>eO (tC n rs one) v | _=>.z)=(List.range n.toNat).map fun v:Nat=>eO (tC n rs one) v:=by
  unfold rngO;rw[List.map_map];apply List.map_congr_left;intro v _;simp[Function.comp]
 rw[zdd,List.nil_append,er] at e;unfold zaO zdb;unfold fnO zad netD at *;simp (disch:=omega) [lf,pr,ziN hr,e,zcO,zbZ,ixN]
def oD:Option Int->PyData
 | none=>.none
 | some x=>.int x
theorem zg6 (o:Option Int):cO o=.d (oD o):=by cases o<;>rfl
theorem zn1 {ρ:Rho} {f:Int->O} {n:Nat} {i:Int} {x:PyData} (hi:0<=i/\i < n) (hf:f i=.d x):gIx ρ (.own (fnO f n)) i=some (.own (.d x)):=by
 rw[zcq];unfold fnO
 have:((i.toNat:Nat):Int)=i:=by omega
 have hl:i.toNat < n:=by omega
 simp[els,zcX (n:=n) (i:=i) hi,hl,this,hf,zeD]
theorem zlC {n one other:Int} {rs:List Road} (N:Net n rs) (h1:0<=one/\one < n) (h2:0<=other/\other < n) :
  zaF [.d (netD n rs),⇑one,⇑other]=.ok (.d (.tuple [oD ((tC n rs other one).map fun x=>-x),oD (tC n rs one other)])) []:=by
 have q:=zba N.ok h1 h2;have t:=zb6 N.ok N.taut;have l1:=zbW N h1;have l2:=zbW N h2;have g1:∀ρ,gIx ρ (.own (fnO (eO (tC n rs one)) n.toNat)) other=some (.own (.d (oD (tC n rs one other)))):=fun ρ=>zn1 ∅ (zg6 _)
 have g2:∀ρ,gIx ρ (.own (fnO (eO (tC n rs other)) n.toNat)) one=some (.own (.d (oD (tC n rs other one)))):=fun ρ=>zn1 ∅ (zg6 _)
 unfold zaF zeK
 cases e:tC n rs other one with
 | none=>
  rw[e] at g2;simp (disch:=omega) [q,t,l1,l2,g1,g2,-zcq,zbZ,oD]
 | some x=>
  rw[e] at g2;simp (disch:=omega) [q,t,l1,l2,g1,g2,-zcq,zbZ,oD]
theorem zpy {ρ:Rho} {k a b:Nat} {t:Tab} {n:Nat} {i j:Int} (sh:Shape n t) (hk:ρ[k]? = some (.d (tabD t))) (ha:ρ[a]? = some ⇑i) (hb:ρ[b]? = some ⇑j) (hi:0<=i/\i < n) (hj:0<=j/\j < n) :
  eIx (eIx (zaa k) (zaa a)) (zaa b) ρ=.ok (.own (.d (oD (cell t i.toNat j.toNat)))) ρ true:=by
 obtain ⟨r,e1,e2,hm⟩:=sh.at (i:=i.toNat) (j:=j.toNat) ∅ ∅;have l1:=sh.len;have l2:=sh.row r hm;have f1:gIx ρ (.at k []) i=some (.own (.d (rowD r))):=by
  rw[zdS,hk];unfold tabD;simp[els,zcX (n:=t.length) (i:=i) ∅,e1,zeD]
 have f2:gIx ρ (.own (.d (rowD r))) j=some (.own (.d (oD (cell t i.toNat j.toNat)))):=by
  rw[zcq];unfold rowD;simp[els,zcX (n:=r.length) (i:=j) ∅,e2,zeD]
  cases cell t i.toNat j.toNat<;>rfl
 simp[hk,ha,hb,f1,f2,tabD,-zdS,-zcq]
@[simp] theorem ztC (ρ:Rho) (i:Nat) (x:PyData) (h:ρ[i]? = some (.d x)):zfA ρ (.at i [])=none:=by
 simp[zfA,h]
theorem zt4 {T:TF} {S U:SF} {ρ ρ':Rho} {q:Bool} (h:T ρ=.ok false ρ' q):sIf T S U ρ=U ρ':=by simp[h]
theorem ziU (rs:List Road):fz (zbA rs)=some (zan rs):=by
 have:=zfF (rs.map zar)
 rw[List.map_map] at this;exact this
theorem zjB (n:Int) (rs:List Road):fz (netO n rs)=some (netD n rs):=by
 unfold netO netD;rw[fz,fzs,fz_d,fzs,ziU,fzs];rfl
theorem zhS (r:List (Option Int)):fz (rowO r)=some (rowD r):=by
 unfold rowO rowD
 have:=zfF (r.map optD)
 rw[List.map_map] at this;rw[<-this]
 congr 2
 apply List.map_congr_left;intro o _
 cases o<;>rfl
theorem zi0:∀t:Tab,fzs (t.map rowO)=some (t.map rowD)
 | []=>by rw[List.map_nil,fzs];rfl
 | r::t=>by rw[List.map_cons,fzs,zhS,zi0 t];rfl
theorem zh8 (t:Tab):fz (tabO t)=some (tabD t):=by
 unfold tabO tabD;rw[fz,zi0];rfl
theorem zge:∀r:List (Option Int),PyData.canLayAll0 (r.map optD)=true/\PyData.depthAll (r.map optD)=0
 | []=>by simp[PyData.canLayAll0,PyData.depthAll]
 | o::r=>by
  have:=zge r
  cases o<;>simp[PyData.canLayAll0,PyData.depthAll,PyData.canLay0,PyData.depth,optD,this]
theorem zfa (r:List (Option Int)):SeqAt.shaped (rowD r)=true:=by
 have:=zge r
 simp[SeqAt.shaped,rowD,PyData.canLay0,PyData.depth,this]
theorem zmE (r:List (Option Int)):((r.map optD).any fun y=>PyData.eqv y .none)=decide (none∈r):=by
 induction r with
 | nil=>simp
 | cons o r ih=>
  rw[List.map_cons,List.any_cons,ih]
  cases o<;>simp[PyData.eqv,optD]
end My
noncomputable section
namespace My
open PySem L2
def zdx:EF:=(zae [false,false] zaO (zac (zaa 1) (zac (zaa 0) aNil)))
def zfr:SF:=(sSeq (za3 (zae [false] zbf (zac (zaa 0) aNil)))
  (sSeq (za3 (zae [false] zaT (zac (zaa 0) aNil)))
  (sRet coe (eLC (itR1 (eIx (zaa 0) ↥0)) [none,some 0] (gtN 0) (gRet true) zdx))))
def zaz:FC:=runF [false] 1 zfr
end My
end
namespace My
open PySem L2
theorem zqN {n:Int} {rs:List Road} {i:Nat} {r:List (Option Int)} (hi:i < n.toNat) (hr:(zaq n.toNat rs)[i]? = some r) (hl:r.length=n.toNat):fnO (eO (tC n rs i)) n.toNat=rowO r:=by
 unfold fnO rowO
 congr 1
 apply List.ext_getElem?;intro j;rw[List.getElem?_map,List.getElem?_map]
 by_cases hj:j < n.toNat
 .rw[List.getElem?_range hj]
  have:r[j]? = some (cell (zaq n.toNat rs) i j):=by
   unfold cell;rw[hr,Option.getD_some,List.getElem?_eq_getElem ∅];rfl
  rw[this]
  show some (eO (tC n rs i) j)=some (cO _)
  unfold eO tC;exact rfl
 .rw[List.getElem?_eq_none (by simp;omega),List.getElem?_eq_none ∅];rfl
theorem zqa (n:Int) (rs:List Road):O.l ((List.range n.toNat).map fun i:Nat=>fnO (eO (tC n rs i)) n.toNat)=tabO (zaq n.toNat rs):=by
 have sh:=zcV n.toNat rs;unfold tabO
 congr 1
 apply List.ext_getElem?;intro i;rw[List.getElem?_map,List.getElem?_map]
 by_cases hi:i < n.toNat
 .rw[List.getElem?_range hi];have hl:i < (zaq n.toNat rs).length:=by rw[sh.len];exact hi
  have e:=List.getElem?_eq_getElem hl;rw[e];exact congrArg some (zqN hi e (sh.row _ (List.getElem_mem hl)))
 .rw[List.getElem?_eq_none (by simp;omega),List.getElem?_eq_none (by rw[sh.len];omega)];rfl
theorem zdE {n:Int} {rs:List Road} (ok:zaw n rs) (T:Taut rs):zaz [.d (netD n rs)]=.ok (tabO (zaq n.toNat rs)) []:=by
 have n0:=ok.n0;have n1:=ok.n1;have hr:okR n=true:=zdD ∅ ∅;have cn:=zdm ok;have ct:=zb6 ok T;obtain ⟨q,e⟩:=zd8 (js:=[none,some 0]) (G:=gtN 0) (T:=gRet true) (A:=zdx) (ρ:=[.d (netD n rs)])
  (fun _=>true) (fun o=>match o with | ⇑v=>fnO (eO (tC n rs v)) n.toNat | _=>.z) (items:=rngO 0 n.toNat) (acc:=[]) (q:=true) (fun y hy=>by
   obtain ⟨i,hi⟩:=List.getElem?_of_mem hy;obtain ⟨hi,rfl⟩:=zcN hi;have lf:=zbW (one:=0+i) ⟨ok,by omega,T⟩ ∅;refine ⟨[⇑(0+i),.d (netD n rs)],[⇑(0+i),.d (netD n rs)],true,by simp,by simp,fun _=>?_,fun h=>by cases h⟩;refine ⟨.own (fnO (eO (tC n rs (0+i))) n.toNat),[⇑(0+i),.d (netD n rs)],false,[⇑(0+i),.d (netD n rs)], ?_, ?_,by simp⟩
   .unfold zdx;unfold fnO at *;exact (zas (zab rfl (zab rfl rfl rfl) rfl) rfl lf rfl rfl)
   .unfold fnO;simp)
 have er:((rngO 0 n.toNat).map fun o=>match o with | ⇑v=>fnO (eO (tC n rs v)) n.toNat | _=>.z)=(List.range n.toNat).map fun i:Nat=>fnO (eO (tC n rs i)) n.toNat:=by
  unfold rngO;rw[List.map_map];apply List.map_congr_left;intro v _;simp[Function.comp]
 rw[zdd,List.nil_append,er] at e;have ft:=zqa n rs;unfold zaz zfr;generalize hX:((List.range n.toNat).map fun i:Nat=>fnO (eO (tC n rs i)) n.toNat)=Xs at *;unfold tabO netD at *;simp -implicitDefEqProofs (disch:=omega) [cn,ct,ziN hr,e,zcO,zbZ,ixN];exact O.l.inj ft
end My
noncomputable section
namespace My
open PySem L2
def zcM:SF:=(sSeq (sIf (gOr (gNot (zdM ↥0 (zaa 6) (eB (zac (zaa 4) aNil) (f1 fLen)) (fun i j=>decide (i<=j)) (fun i j=>decide (i < j)))) (tst (e2 (eIx (eIx (zaa 4) (zaa 6)) ↥0) (zaa 5) (fEq true)))) (sRet mov (eC (.bool false))) sNil)
  (sAsg coe (eIx (eIx (zaa 4) (zaa 6)) ↥1) (gtN 5)))
def zfq:SF:=(sSeq (sAsg coe (eIx (zaa 0) ↥1) (gtN 4))
  (sSeq (sAsg coe (zaa 1) (gtN 5))
  (sSeq (zg1 (srcM false (fun ds=>ds.map O.d) (zaa 3)) (gtN 6) zcM)
  (sRet mov (e2 (zaa 5) (zaa 2) (fEq false))))))
def zcW:FC:=runF [false,false,false,false] 7 zfq
def zcr:EF:=(eIx (eIx (zaa 1) (zaa 0)) ↥2)
def zdA:SF:=(sSeq (sAsg coe (eIx (zaa 0) ↥1) (gtN 2))
  (sRet coe (eB (zac (eLS (srcM true (fun ds=>ds.map O.d) (zaa 1)) [none,some 2] (gtN 0) (gRet true) zcr) aNil) (f1 fSum))))
def za8:FC:=runF [false,false] 3 zdA
end My
end
namespace My
open PySem L2
def entD (n:Nat) (e:Int->Option Int):PyData:=.list ((List.range n).map fun v:Nat=>oD (e v))
theorem zss (n:Nat) (e:Int->Option Int):fz (fnO (eO e) n)=some (entD n e):=by
 have h:=zfF ((List.range n).map fun v:Nat=>oD (e v));rw[List.map_map] at h;unfold fnO entD;rw[<-h]
 congr 2
 apply List.map_congr_left;intro v _;exact zg6 _
theorem zgf {ρ:Rho} {k:Nat} {ds:List PyData} {i:Int} {j:Nat} {x:PyData} (hk:ρ[k]? = some (.d (.list ds))) (hj:ixN ds.length i=some j) (hx:ds[j]? = some x):gIx ρ (.at k []) i=some (.own (.d x)):=by
 rw[zdS,hk];simp[els,hj,hx]
theorem zkZ {ρ:Rho} {k n:Nat} {e:Int->Option Int} {i x:Int} (hk:ρ[k]? = some (.d (entD n e))) (hi:0<=i/\i < n) (hx:e i=some x):gIx ρ (.at k []) i=some (.own ⇑x):=by
 refine zgf hk (j:=i.toNat) (zcX ⟨hi.1,by simpa using hi.2⟩) ?_
 have:((i.toNat:Nat):Int)=i:=by omega
 have hl:i.toNat < n:=by omega
 rw[List.getElem?_map,List.getElem?_range hl];simp[this,hx,oD]
theorem zgs {ρ:Rho} {k:Nat} {rs:List Road} {i:Int} {r:Road} (hk:ρ[k]? = some (.d (.list (rs.map zar)))) (h:zaK rs i=some r):gIx ρ (.at k []) i=some (.own (.d (zar r))):=by
 obtain ⟨h0,h1,h2⟩:=za9 h;refine zgf hk (j:=i.toNat) (zcX ⟨h0,by simpa using h1⟩) ?_;rw[List.getElem?_map,h2];rfl
theorem zm8 {ρ:Rho} {k:Nat} {ws:List Int} {x:Int} (hk:ρ[k]? = some (zad (ws++[x]))):gIx ρ (.at k []) (-1)=some (.own ⇑x):=by
 have hi:ixN (ws.length+1) (-1)=some ws.length:=by
  unfold ixN;rw[if_neg ∅,if_pos ∅]
  congr 1
  omega
 rw[zdS,hk];unfold zad;simp[els,hi]
theorem zht {d0 d1 d2 d3:O} {rs:List Road} {ws:List Int} {k:Int} {r:Road} (h:zaK rs k=some r) :
  eIx (eIx (zaa 4) (eIx (zaa 5) ↥(-1))) ↥0 [d0,d1,d2,d3,.d (.list (rs.map zar)),zad (ws++[k])]=.ok (.own ⇑r.1) [d0,d1,d2,d3,.d (.list (rs.map zar)),zad (ws++[k])] true:=by
 have g1:=zm8 (ρ:=[d0,d1,d2,d3,.d (.list (rs.map zar)),zad (ws++[k])]) (k:=5) rfl;have g2:=zgs (ρ:=[d0,d1,d2,d3,.d (.list (rs.map zar)),zad (ws++[k])]) (k:=4) (i:=k) rfl h;unfold zad at *;generalize (ws++[k]).map (fun h=>O.d (PyData.int h))=Wl at *;have g3:∀ρ,gIx ρ (.own (.d (zar r))) 0=some (.own ⇑r.1):=fun ρ=>by rw[zcq];simp[els,zar,ixN]
 simp[g1,g2,g3,-zdS,-zcq]
theorem zkh {n:Int} {rs:List Road} (ok:zaw n rs) {e:Int->Option Int} {y:Int} {d0 d3:O}:∀(ws done:List Int) (x k:Int),FB rs e y x (k::ws)->done.length+ws.length<=1000->
  zbw zbB zb7 (ws.length+1) [d0,.d (entD n.toNat e),⇑y,d3,.d (.list (rs.map zar)),zad (done++[k])]=.nx [d0,.d (entD n.toNat e),⇑y,d3,.d (.list (rs.map zar)),zad (done++k::ws)]:=by
 intro ws
 induction ws with
 | nil=>
  intro done x k h hl;obtain ⟨_,r,hr,z⟩:=h;have hy:r.1=y:=z.elim (fun z=>z.1) fun z=>z.2.elim
  have fl:=zht (d0:=d0) (d1:=.d (entD n.toNat e)) (d2:=⇑y) (d3:=d3) (ws:=done) hr;rw[zbw];unfold zbB;unfold zad at *;generalize (done++[k]).map (fun h=>O.d (PyData.int h))=Wl at *;simp[fl,-zcI,hy]
 | cons k' ws ih=>
  intro done x k h hl;obtain ⟨_,r,hr,z⟩:=h;obtain ⟨hy,h'⟩:r.1≠y/\FB rs e y r.1 (k'::ws):=z.elim (fun z=>by cases z.2) id;have hin:=(ok.rd r (zbz hr)).1;have n0:=ok.n0;have fl:=zht (d0:=d0) (d1:=.d (entD n.toNat e)) (d2:=⇑y) (d3:=d3) (ws:=done) hr;have ge:=zkZ (ρ:=[d0,.d (entD n.toNat e),⇑y,d3,.d (.list (rs.map zar)),zad (done++[k])]) (k:=1) (n:=n.toNat) (e:=e) (i:=r.1) rfl ∅ h'.1;have st:zb7 [d0,.d (entD n.toNat e),⇑y,d3,.d (.list (rs.map zar)),zad (done++[k])]=.nx [d0,.d (entD n.toNat e),⇑y,d3,.d (.list (rs.map zar)),zad ((done++[k])++[k'])]:=by
   have ex:eIx (zaa 1) (eIx (eIx (zaa 4) (eIx (zaa 5) ↥(-1))) ↥0) [d0,.d (entD n.toNat e),⇑y,d3,.d (.list (rs.map zar)),zad (done++[k])]=.ok (.own ⇑k') [d0,.d (entD n.toNat e),⇑y,d3,.d (.list (rs.map zar)),zad (done++[k])] true:=by
    rw[zcI];unfold zad at *;generalize (done++[k]).map (fun h=>O.d (PyData.int h))=Wl at *;simp[fl,ge,-zdS,-zcI]
   simp only[List.length_cons] at hl;have hW:((done++[k]).map (fun h=>O.d (PyData.int h))).length=done.length+1:=by simp
   unfold zb7;unfold zad at *;rw[show ((done++[k])++[k']).map (fun h=>O.d (PyData.int h))=(done++[k]).map (fun h=>O.d (PyData.int h))++[O.d (.int k')] from by rw[List.map_append];rfl];generalize (done++[k]).map (fun h=>O.d (PyData.int h))=Wl at *;simp (disch:=omega) [ex,-zcI,zd4,hW]
  have t:zbB [d0,.d (entD n.toNat e),⇑y,d3,.d (.list (rs.map zar)),zad (done++[k])]=.ok true [d0,.d (entD n.toNat e),⇑y,d3,.d (.list (rs.map zar)),zad (done++[k])] true:=by
   unfold zbB;unfold zad at *;generalize (done++[k]).map (fun h=>O.d (PyData.int h))=Wl at *;simp[fl,-zcI,hy]
  rw[zbw,t];dsimp only;rw[st];dsimp only
  have:=ih (done++[k]) r.1 k' h' (by simp at hl ⊢;omega)
  have e2:done++[k]++k'::ws=done++k::k'::ws:=by simp
  rw[e2] at this;exact this
theorem zhR (ws:List Int):fRev (zad ws)=some (zad ws.reverse):=by
 have e:ws.map (fun h=>O.d (PyData.int h))=(ws.map PyData.int).map O.d:=by rw[List.map_map];rfl
 unfold fRev zad;rw[e];simp only[els,zeE];rw[<-List.map_reverse,List.map_map];rfl
theorem zin {n:Int} {rs:List Road} (ok:zaw n rs) {e:Int->Option Int} {y x:Int} {ws:List Int} (hx:0<=x/\x < n) (h:FB rs e y x ws) (hl:ws.length<=900) :
  zcF [.d (netD n rs),.d (entD n.toNat e),⇑y,⇑x]=.ok (zad ws.reverse) []:=by
 cases ws with
 | nil=>exact h.elim
 | cons k ws=>
  have ge:=zkZ (ρ:=[.d (netD n rs),.d (entD n.toNat e),⇑y,⇑x,.d (.list (rs.map zar)),.z]) (k:=1) (n:=n.toNat) (e:=e) (i:=x) rfl ∅ h.1;have bw:=zf9 (zkh ok (d0:=.d (netD n rs)) (d3:=⇑x) ws [] x k h (by simp at hl ⊢;omega)) (fun z=>by cases z);have rv:=zhR ([]++k::ws);have b1:(sAsg coe (eIx (zaa 0) ↥1) (gtN 4)) [.d (netD n rs),.d (entD n.toNat e),⇑y,⇑x,.z,.z]=.nx [.d (netD n rs),.d (entD n.toNat e),⇑y,⇑x,.d (.list (rs.map zar)),.z]:=by
   unfold netD zan;exact (zao (za6 rfl (zaD rfl rfl rfl) rfl rfl) rfl rfl)
  have b2:(sAsg coe (zay coes .l (zac (eIx (zaa 1) (zaa 3)) aNil)) (gtN 5)) [.d (netD n rs),.d (entD n.toNat e),⇑y,⇑x,.d (.list (rs.map zar)),.z]=.nx [.d (netD n rs),.d (entD n.toNat e),⇑y,⇑x,.d (.list (rs.map zar)),zad ([]++[k])]:=by
   unfold zad;exact (zao (zax (zab (za6 rfl (zaD rfl rfl rfl) rfl ge) rfl rfl) rfl (nlq rfl) rfl) rfl rfl)
  have main:zde [.d (netD n rs),.d (entD n.toNat e),⇑y,⇑x,.z,.z]=.rt (zad ([]++k::ws).reverse) [.d (netD n rs),.d (entD n.toNat e),⇑y,⇑x,.d (.list (rs.map zar)),zad ([]++k::ws)]:=by
   unfold zde;rw[zcZ b1,zcZ b2,zcZ bw];unfold zad at rv ⊢;generalize ([]++k::ws).map (fun h=>O.d (PyData.int h))=Wl at *;generalize ([]++k::ws).reverse.map (fun h=>O.d (PyData.int h))=Wr at *;exact (zaS (zmN rfl rfl rv) rfl)
  unfold zcF;rw[List.nil_append] at main;simp[main,runF]
theorem ze6 (ws:List Int):(ws.map PyData.int).map O.d=ws.map fun k=>O.d (.int k):=by rw[List.map_map];rfl
theorem zgD {rs:List Road} {p q k:Int} {ws:List Int} (h:zaZ rs p q (k::ws)=true):∃r,zaK rs k=some r/\r.1=p/\zaZ rs r.2.1 q ws=true:=by
 rw[zaZ] at h
 cases e:zaK rs k with
 | none=>rw[e] at h;cases h
 | some r=>
  rw[e] at h;dsimp only at h
  by_cases z:r.1=p
  .rw[if_pos z] at h;exact ⟨r,rfl,z,h⟩
  .rw[if_neg z] at h;cases h
theorem zjb {ρ:Rho} (r:Road):gIx ρ (.own (.d (zar r))) 0=some (.own ⇑r.1)/\gIx ρ (.own (.d (zar r))) 1=some (.own ⇑r.2.1)/\gIx ρ (.own (.d (zar r))) 2=some (.own ⇑r.2.2):=by
 refine ⟨?_, ?_, ?_⟩<;>rw[zcq]<;>simp[els,zar,ixN]
theorem zjt {rs:List Road} {k:Int} {r:Road} (hr:zaK rs k=some r) (ρ:Rho):gIx ρ (.own (.d (.list (rs.map zar)))) k=some (.own (.d (zar r))):=by
 obtain ⟨h0,h1,h2⟩:=za9 hr;rw[zcq]
 have:=zcX (n:=rs.length) (i:=k) ⟨h0,h1⟩
 simp[els,this,h2]
theorem zgM {n:Int} {rs:List Road} {ρ:Rho} {j:Nat} (hρ:ρ[j]? = some (.d (netD n rs))):gIx ρ (.at j []) 1=some (.own (.d (.list (rs.map zar)))):=by
 rw[zdS,hρ];exact rfl
theorem zjY {rs:List Road} {d0 d1 d2 d3:O} {q:Int}:∀(ws:List Int) (p:Int) (z:O),zaZ rs p q ws=true->
  ∃z',forF (gtN 6) zcM (ws.map fun k=>O.d (.int k)) [d0,d1,d2,d3,.d (.list (rs.map zar)),⇑p,z]=.nx [d0,d1,d2,d3,.d (.list (rs.map zar)),⇑q,z']:=by
 intro ws
 induction ws with
 | nil=>
  intro p z h;rw[zaZ] at h;obtain rfl:=of_decide_eq_true h;exact ⟨z,rfl⟩
 | cons k ws ih=>
  intro p z h;obtain ⟨r,hr,hp,h'⟩:=zgD h;obtain ⟨h0,h1,h2⟩:=za9 hr;obtain ⟨z',e⟩:=ih r.2.1 ⇑k h';refine ⟨z', ?_⟩;have gr:=zgs (ρ:=[d0,d1,d2,d3,.d (.list (rs.map zar)),⇑p,⇑k]) (k:=4) rfl hr;have g0:=fun ρ=>(zjb (ρ:=ρ) r).1
  have g1:=fun ρ=>(zjb (ρ:=ρ) r).2.1
  have st:zcM [d0,d1,d2,d3,.d (.list (rs.map zar)),⇑p,⇑k]=.nx [d0,d1,d2,d3,.d (.list (rs.map zar)),⇑r.2.1,⇑k]:=by
   unfold zcM;simp[gr,g0,g1,-zdS,-zcq,h0,h1,hp]
  rw[List.map_cons,forF];simp[st,e]
theorem ziY {n p q:Int} {rs:List Road} {ws:List Int} (h:zaZ rs p q ws=true):zcW [.d (netD n rs),⇑p,⇑q,.d (zal ws)]=.ok (.d (.bool true)) []:=by
 obtain ⟨z',e⟩:=zjY (d0:=.d (netD n rs)) (d1:=⇑p) (d2:=⇑q) (d3:=.d (zal ws)) ws p .z h;rw[<-ze6] at e;unfold zcW zfq;unfold zal netD zan at *;simp[e,-List.map_map,ixN]
theorem zdR {n:Int} {rs:List Road} {ws:List Int} (hl:ws.length<=1000) (hA:zj2 rs ws):za8 [.d (netD n rs),.d (zal ws)]=.ok ⇑(zaI rs ws) []:=by
 obtain ⟨q,e⟩:=zd8 (js:=[none,some 2]) (G:=gtN 0) (T:=gRet true) (A:=zcr) (ρ:=[.d (netD n rs),.d (zal ws),.d (.list (rs.map zar))]) (fun _=>true) (fun o=>match o with | ⇑k=>⇑(zgc rs k) | _=>.z) (items:=(ws.map PyData.int).map O.d) (acc:=[]) (q:=true) (fun y hy=>by
  rw[ze6] at hy;obtain ⟨k,hk,rfl⟩:=List.mem_map.mp hy;obtain ⟨r,hr⟩:∃r,zaK rs k=some r:=by
   obtain ⟨h0,h1⟩:=hA k hk;obtain ⟨r,hr,_⟩:=zeL h0 h1;exact ⟨r,hr⟩
  have gr:=zgs (ρ:=[⇑k,.d (.list (rs.map zar))]) (k:=1) rfl hr;have g2:=fun ρ=>(zjb (ρ:=ρ) r).2.2
  have el:=zdk hr;refine ⟨[⇑k,.d (.list (rs.map zar))],[⇑k,.d (.list (rs.map zar))],true,by simp,by simp,(fun _=>⟨.own ⇑(zgc rs k),[⇑k,.d (.list (rs.map zar))],true,[⇑k,.d (.list (rs.map zar))], ?_,by simp,by simp⟩),(fun h=>by cases h)⟩;unfold zcr;rw[el];simp[gr,g2,-zdS,-zcq])
 have em:((ws.map PyData.int).map O.d).map (fun o=>match o with | ⇑k=>O.d (.int (zgc rs k)) | _=>.z)=(ws.map (zgc rs)).map fun h=>O.d (.int h):=by
  rw[ze6,List.map_map,List.map_map];rfl
 rw[zdd,List.nil_append,em] at e;have z:=zhI (ws.map (zgc rs));unfold za8 zdA zaI;unfold zad zal netD zan at *;generalize (ws.map (zgc rs)).map (fun h=>O.d (PyData.int h))=Z at *;simp (disch:=omega) [zfA,sub,e,zbZ,-List.map_map,f1,fSum,z,ixN]
def zmu:O->List (Option Int)
 | .d (.list ds)=>ds.map fun d=>match d with | .int i=>some i | _=>none
 | _=>[]
theorem zhO (r:List (Option Int)):zmu (.d (rowD r))=r:=by
 show (r.map optD).map (fun d=>match d with | .int i=>some i | _=>none)=r
 rw[List.map_map]
 conv=>rhs;rw[<-List.map_id r]
 apply List.map_congr_left;intro o _
 cases o<;>rfl
def zrw (s:Str) (ws:List Int):PyData:=.tuple [.str s,zal ws]
theorem zir {s:Str} {o:O} {ws:List Int} (h:fz o=some (zal ws)):fz (.t [.d (.str s),o])=some (zrw s ws):=by
 simp[fz,fzs,h,zrw]
theorem zoN {A B:SF} {ρ ρ':Rho} {o:O} (h:A ρ=.rt o ρ'):sSeq A B ρ=.rt o ρ':=by unfold sSeq;rw[h]
theorem zfm {ms:List Bool} {n:Nat} {S:SF} {os:List O} {o:O} {ρ':Rho} (h:S (os++List.replicate (n - os.length) .z)=.rt o ρ'):runF ms n S os=.ok o (zcx ms ρ'):=by unfold runF;rw[h]
theorem znv {s:Str} (hs:PyData.strOk s=true):fEq true (.d (.str s)) (.d (.str s))=some (.d (.bool false)):=by
 have c:(PyData.str s).canLay0=true:=by simp[PyData.canLay0,hs]
 have e:=zdo _ c;have sh:SeqAt.shaped (.str s)=true:=by simp[SeqAt.shaped,c,PyData.depth]
 simp[fEq,sh,e]
end My
noncomputable section
namespace My
open PySem L2
def zcD:SF:=(sSeq (sAsg coe (zae [false,false] zaY (zac (zaa 0) (zac (zaa 1) aNil))) (gtN 3))
  (sSeq (sIf (tst (e2 (zaa 2) (zaa 3) (fIn true))) (sRet mov (zay movs mkT (zac (eC (.str "none")) (zac (zaa 3) aNil)))) sNil)
  (sSeq (sAsg coe (zae [false,false] zbD (zac (zaa 0) (zac (zaa 1) aNil))) (gtT (zah (gtN 4) (zah (gtN 5) zbl))))
  (sSeq (sIf (tst (e2 (zaa 1) (zaa 2) (fEq false))) (sRet mov (zay movs mkT (zac (eC (.str "way")) (zac (zay movs .l aNil) (zac (zaa 4) aNil))))) sNil)
  (sRet mov (zay movs mkT (zac (eC (.str "way")) (zac (zae [false,false,false,false] zcF (zac (zaa 0) (zac (zaa 5) (zac (zaa 1) (zac (zaa 2) aNil))))) (zac (zaa 4) aNil)))))))))
def zat:FC:=runF [false,false,false] 6 zcD
def zfs:SF:=(sSeq (za3 (zae [false,false,false] zap (zac (zaa 0) (zac (zaa 1) (zac (zaa 2) aNil)))))
  (sSeq (za3 (zae [false] zaT (zac (zaa 0) aNil)))
  (sRet mov (zae [false,false,false] zat (zac (zaa 0) (zac (zaa 1) (zac (zaa 2) aNil)))))))
def zaP:FC:=runF [false,false,false] 3 zfs
end My
end
namespace My
open PySem L2
theorem zlc {l:List Int} (h:l.Nodup):l.reverse.Nodup:=List.pairwise_reverse.mpr (h.imp fun e=>Ne.symm e)
structure LW (n:Int) (rs:List Road) (one other:Int) (W hs:List Int):Prop where
 ld:zaZ rs one other W=true
 nd:(W.map (zey rs)).Nodup
 lW:W.length<=20
 lh:hs.length=n.toNat
 pot:Pot rs (hgt hs)
 bd:∀h∈hs,-20000000000<=h/\h<=40000000000
 df:hgt hs other - hgt hs one=zaI rs W
 ds:Dist rs one other (zaI rs W)
 no:other∉W.map (zey rs)
def hsOf (n:Nat) (h:Int->Int):List Int:=(List.range n).map fun v:Nat=>h v
theorem zi2 (n:Nat) (h:Int->Int):fnO (hO h) n=zad (hsOf n h):=by
 unfold fnO zad hsOf;rw[List.map_map];rfl
theorem zqk {n:Nat} {h:Int->Int} {v:Int} (hv:0<=v/\v < n):hgt (hsOf n h) v=h v:=by
 unfold hgt hsOf;rw[List.getD_eq_getElem?_getD,List.getElem?_map,List.getElem?_range ∅,Option.map_some,Option.getD_some,Int.toNat_of_nonneg hv.1]
theorem zrt {n one other:Int} {rs:List Road} (ok:zaw n rs) (T:Taut rs) (h1:0<=one/\one < n) (h2:0<=other/\other < n) {W:List Int} (ld:zaZ rs one other W=true) (nd:(W.map (zey rs)).Nodup) (lW:W.length<=20)
  (no:other∉W.map (zey rs)) (df:(zaE n.toNat rs (farS one 40000000000)).h other - (zaE n.toNat rs (farS one 40000000000)).h one=zaI rs W):LW n rs one other W (hsOf n.toNat (zaE n.toNat rs (farS one 40000000000)).h):=by
 have P:=(zda ok T (farS one 40000000000)).2;have n0:=ok.n0;have ev:∀v,0<=v/\v < n->hgt (hsOf n.toNat (zaE n.toNat rs (farS one 40000000000)).h) v=(zaE n.toNat rs (farS one 40000000000)).h v:=fun v hv=>zqk ∅
 refine ⟨ld,nd,lW,by unfold hsOf;simp,fun r hr=>?_,fun x hx=>?_,by rw[ev _ h1,ev _ h2];exact df,⟨zel ld,fun L w=>?_⟩,no⟩
 .obtain ⟨a,b,_⟩:=ok.rd r hr;rw[ev _ a,ev _ b];exact P r hr
 .obtain ⟨v,hv,rfl⟩:=List.mem_map.mp hx
  have:=List.mem_range.mp hv
  exact zrQ ok T ∅
 .have:=P.wk w
  omega
theorem zcK {n one other:Int} {rs:List Road} (ok:zaw n rs) (T:Taut rs) (h1:0<=one/\one < n) (h2:0<=other/\other < n) :
  ((∀L,¬Wk rs one other L)/\∃R,zat [.d (netD n rs),⇑one,⇑other]=.ok (.t [.d (.str "none"),zad (zdh R)]) []/\Rch n rs one R)\/
  (∃W hs,zat [.d (netD n rs),⇑one,⇑other]=.ok (.t [.d (.str "way"),zad W,zad hs]) []/\LW n rs one other W hs):=by
 have n1:=ok.n1;obtain ⟨R,e1,hR⟩:=zdr ok h1;have mR:other∈zdh R↔∃L,Wk rs one other L:=(zej R).mem_iff.trans (hR.mem other);have fi:=zhm true (zdh R) other;have lo:=zeW ok h1;have B:=zea n.toNat rs (farS one 40000000000);have P:=(zda ok T (farS one 40000000000)).2
 by_cases c:∃L,Wk rs one other L
 .right
  have c':=mR.mpr c;obtain ⟨L,w⟩:=c;obtain ⟨ws,hb,_,hl,hd,hh,h0⟩:=zjs ok T h2 w
  by_cases z:one=other
  .subst z;refine ⟨[],_, ?_,zrt ok T h1 h1 (by simp[zaZ]) (by simp) (by simp) (by simp) (by simp[zaI])⟩;rw[<-zi2];have c2:decide (one∈zdh R)=true:=decide_eq_true c';rw[c2] at fi;have oe:fEq false ⇑one ⇑one=some (.d (.bool true)):=by simp
   unfold zat zcD;exact (zbn rfl (zag (zao (zas (zab rfl (zab rfl rfl rfl) rfl) rfl e1 rfl rfl) rfl rfl) (zag (if_f (zaR (zau rfl rfl rfl rfl rfl fi) rfl) rfl) (zag (zao (zas (zab rfl (zab rfl rfl rfl) rfl) rfl lo rfl rfl) rfl rfl) (zd5 (if_t (zaR (zau rfl rfl rfl rfl rfl oe) rfl) (zaS (zax (zab rfl (zab (zax rfl rfl (nlq rfl) rfl) (zab rfl rfl rfl) rfl) rfl) rfl (nlq rfl) rfl) rfl)))))) rfl)
  .have hne:ws≠[]:=fun e=>by
    subst e;exact z hb.symm
   obtain ⟨ws',hf,hl'⟩:=FB.ex hne hb;have wb:=zin ok h2 hf ∅;have ee:=B.bk_eq P hf.bk;refine ⟨ws'.reverse,_, ?_,zrt ok T h1 h2 (B.leads hf.bk) (by rw[List.map_reverse];exact zlc hf.nodup) (by simp;omega) (by rw[List.map_reverse];exact fun q=>hf.last (Ne.symm z) (List.mem_reverse.mp q)) (by rw[zdK];omega)⟩;rw[<-zi2];have c2:decide (other∈zdh R)=true:=decide_eq_true c';rw[c2] at fi;have fe:=zss n.toNat (zaE n.toNat rs (farS one 40000000000)).e;have oe:fEq false ⇑one ⇑other=some (.d (.bool false)):=by simp[z]
   unfold zat zcD;exact (zbn rfl (zag (zao (zas (zab rfl (zab rfl rfl rfl) rfl) rfl e1 rfl rfl) rfl rfl) (zag (if_f (zaR (zau rfl rfl rfl rfl rfl fi) rfl) rfl) (zag (zao (zas (zab rfl (zab rfl rfl rfl) rfl) rfl lo rfl rfl) rfl rfl) (zag (if_f (zaR (zau rfl rfl rfl rfl rfl oe) rfl) rfl) (zaS (zax (zab rfl (zab (zas (zab rfl (zab rfl (zab rfl (zab rfl rfl rfl) rfl) rfl) rfl) (zbE rfl (zbE (zfD rfl fe) rfl)) wb rfl rfl) (zab rfl rfl rfl) rfl) rfl) rfl (nlq rfl) rfl) rfl))))) rfl)
 .left
  refine ⟨fun L w=>c ⟨L,w⟩,R, ?_,hR⟩;have c2:decide (other∈zdh R)=false:=decide_eq_false fun z=>c (mR.mp z)
  rw[c2] at fi;unfold zat zcD;unfold zad at *;generalize (zdh R).map (fun h=>O.d (PyData.int h))=Z at *;exact (zbn rfl (zag (zao (zas (zab rfl (zab rfl rfl rfl) rfl) rfl e1 rfl rfl) rfl rfl) (zd5 (if_t (zaR (zau rfl rfl rfl rfl rfl fi) rfl) (zaS (zax (zab rfl (zab rfl rfl rfl) rfl) rfl (nlq rfl) rfl) rfl)))) rfl)
theorem ziT {n one other:Int} {rs:List Road} (ok:zaw n rs) (T:Taut rs) (h1:0<=one/\one < n) (h2:0<=other/\other < n) :
  ((∀L,¬Wk rs one other L)/\∃R,zaP [.d (netD n rs),⇑one,⇑other]=.ok (.t [.d (.str "none"),zad (zdh R)]) []/\Rch n rs one R)\/
  (∃W hs,zaP [.d (netD n rs),⇑one,⇑other]=.ok (.t [.d (.str "way"),zad W,zad hs]) []/\LW n rs one other W hs):=by
 have c1:=zba ok h1 h2;have c2:=zb6 ok T;have key:∀ts:List O,zat [.d (netD n rs),⇑one,⇑other]=.ok (.t ts) []->zaP [.d (netD n rs),⇑one,⇑other]=.ok (.t ts) []:=fun ts h=>by
  unfold zaP zfs;generalize netD n rs=Nd at *;exact (zbn rfl (zag (zaW (za2 (zab rfl (zab rfl (zab rfl rfl rfl) rfl) rfl) rfl c1 rfl)) (zag (zaW (za2 (zab rfl rfl rfl) rfl c2 rfl)) (zaS (zas (zab rfl (zab rfl (zab rfl rfl rfl) rfl) rfl) rfl h rfl rfl) rfl))) rfl)
 rcases zcK ok T h1 h2 with ⟨a,R,e,h⟩ | ⟨W,hs,e,h⟩
 .exact .inl ⟨a,R,key _ e,h⟩
 .exact .inr ⟨W,hs,key _ e,h⟩
theorem zkS {s t:Str} (hs:PyData.strOk s=true) (ht:PyData.strOk t=true) (b:Bool) (h:PyData.eqv (.str s) (.str t)=false):fEq b (.d (.str s)) (.d (.str t))=some (.d (.bool b)):=by
 have cs:(PyData.str s).canLay0=true:=by simp[PyData.canLay0,hs]
 have ct:(PyData.str t).canLay0=true:=by simp[PyData.canLay0,ht]
 have ss:SeqAt.shaped (.str s)=true:=by simp[SeqAt.shaped,cs,PyData.depth]
 have st:SeqAt.shaped (.str t)=true:=by simp[SeqAt.shaped,ct,PyData.depth]
 cases b<;>simp[fEq,ss,st,h]
theorem zoi:PyData.strOk (Str.ofString "way")=true:=by decide +kernel
theorem zjQ:PyData.strOk (Str.ofString "none")=true:=by decide +kernel
theorem zdp:fEq false (.d (.str "way")) (.d (.str "none"))=some (.d (.bool false)):=zkS zoi zjQ false (by decide +kernel)
namespace K10
end K10
theorem zag {A B:SF} {ρ ρ':Rho} {r:Rt} (h:A ρ=.nx ρ') (k:B ρ'=r):sSeq A B ρ=r:=(zcZ h).trans k
theorem zjT (ρ:Rho):zcx [false,false,false,false] ρ=[]:=by
 rcases ρ with _ | ⟨a,_ | ⟨b,_ | ⟨c,_ | ⟨d,e⟩⟩⟩⟩<;>rfl
theorem zeR {o o':O} {d:PyData} (h:fz o=some d) (h':fz o'=some d) (s:SeqAt.shaped d=true) (e:PyData.eqv d d=true) (b:Bool):fEq b o o'=some (.d (.bool (!b))):=by
 unfold fEq;rw[h,h']
 cases b<;>simp[s,e]
namespace K10
end K10
end My
namespace L2
open PySem PySem.Spec PyProof.Rows
theorem ziR:∀(n:Nat) (lo:Int) (us:List Value),us.length=n->(∀(j:Nat) (v:Value),us[j]? = some v->∃t,v=Value.int (lo+(j:Nat)) t)->Vals ((List.range n).map fun i:Nat=>V.int (lo+i)) us
 | 0,lo,us,hl,h=>by
  cases us with
  | nil=>exact .nil
  | cons a as=>cases hl
 | n+1,lo,us,hl,h=>by
  cases us with
  | nil=>cases hl
  | cons a as=>
   rw[List.range_succ_eq_map,List.map_cons,List.map_map];refine .cons ?_ ?_
   .obtain ⟨t,e⟩:=h 0 a rfl;exact ⟨t,e⟩
   .have:=ziR n (lo+1) as (by simpa using hl) fun j v e=>by
     obtain ⟨t,e⟩:=h (j+1) v e;exact ⟨t,by rw[e];congr 1;omega⟩
    have e:(fun i:Nat=>V.int (lo+1+i))=(fun i:Nat=>V.int (lo+i)) ∘ Nat.succ:=by
     funext i
     simp only[Function.comp]
     congr 1
     omega
    rw[e] at this;exact this
section
variable {X:Cx}
theorem zmc:CallR X (.type "range") (fun xs H Q=>∃j,xs=[.int j]/\∀l,H l=none->Q (.ref l) (upd H l (.rng 0 j))):=by
 intro pins s σ H xs us Q I r h;obtain ⟨j,rfl,q⟩:=h;obtain ⟨u,rfl,t,rfl⟩:=zgB r;exact call_range_1 ⟨.ref s.heap.objs.size,_,I.laid (t':=_) (fun b o e=>Heap.get?_push_of_some _ e) (Nat.le_refl _) (show ObjOk X.prog X.w _ _ _ (.rng 0 j) from ⟨_,_,_,Heap.get?_push_size _ rfl⟩),rfl,q _ (I.hok.fresh (Nat.le_refl _))⟩
theorem zhj (hc:X.calm=true):CallR X (.type "list") (fun xs H Q=>∃p j,xs=[.ref p]/\H p=some (.rng 0 j)/\0<=j/\j<=1000/\∀l,H l=none->Q (.ref l) (upd H l (.lst ((List.range j.toNat).map fun i:Nat=>V.int (0+i))))):=by
 intro pins s σ H xs us Q I r h;obtain ⟨p,j,rfl,hq,j0,j1,q⟩:=h;obtain ⟨u,rfl,rx⟩:=zgB r;cases rx;obtain ⟨t,u,v,hg⟩:=(show ∃t u v,s.heap.get? p=some { cls:=.type "range",data:=.fields #[.int 0 t,.int j u,.int 1 v] } from I.hok p _ hq);refine call_list_range (n:=j.toNat) (I.ok.hd hc) hg (small_one ∅ ∅ ∅ ∅) (by rw[rangeSize_one];split<;>omega) ∅ fun h' tk acc' c' kp e hi=>?_
 obtain ⟨h1,h2⟩:=hi;have vs:=ziR j.toNat 0 acc'.toList (by simpa using h1) fun k w hk=>by
  obtain ⟨t,e⟩:=h2 k w (by simpa using hk);exact ⟨t,by rw[e];congr 1;omega⟩
 refine ⟨.ref s.heap.objs.size,_,I.laid (t':=tk) kp (Nat.le_refl _) (show ObjOk X.prog X.w _ h' _ (.lst _) from ⟨?_,acc'.toList,c',vs,by simpa using e⟩),rfl,q _ (I.hok.fresh (Nat.le_refl _))⟩
 have:sizeLine=16777216:=rfl
 simp;omega
def zjL:O->Option O
 | ⇑j=>some (.g (.rng 0 j))
 | _=>none
def zgP:O->Option O
 | .g (.rng lo j)=>if lo=0/\0<=j/\j<=1000 then some (.l ((List.range j.toNat).map fun i:Nat=>⇑(0+i))) else none
 | _=>none
theorem zm9:CallR X (.type "range") (rVs X.mg X.K (f1 zjL)):=cv1 zmc fun x H Q hx__=>by
 obtain ⟨W,ox,As,z,o1,dm,hf,q⟩:=hx__;unfold zjL at hf;split at hf
 .cases hf;exact ⟨_,by rw[o1.int],fun l hn=>q _ _ W [] (.new hn) (.g (fun w=>dm l w hn) zbx)⟩
 .cases hf
theorem zmH (hc:X.calm=true):CallR X (.type "list") (rVs X.mg X.K (f1 zgP)):=cv1 (zhj hc) fun x H Q hx__=>by
 obtain ⟨W,ox,As,z,o1,dm,hf,q⟩:=hx__;unfold zgP at hf;split at hf
 .rename_i lo j
  by_cases hc:lo=0/\0<=j/\j<=1000
  .rw[if_pos hc] at hf;cases hf;obtain ⟨rfl,j0,j1⟩:=hc
   cases o1 with
   | g _ h=>
    refine ⟨_,_,rfl,h,j0,j1,fun l hn=>q _ _ _ _ (.newO hn) ?_⟩
    have:=Ow.newL (mg:=X.mg) (K:=X.K) (W:=W) hn (Dns.ofInts (P:=W) (H:=H) ((List.range j.toNat).map fun i:Nat=>(0+(i:Int))))
    rw[List.map_map,List.map_map,List.map_map] at this;exact this
  .rw[if_neg hc] at hf;cases hf
 .cases hf
end
end L2
noncomputable section
namespace My
open PySem L2
def zet:SF:=(sSeq (sIf (tst (e2 (eC .none) (zaa 0) (fIn false))) (sRet mov (eC .none)) sNil)
  (sRet mov (eB (zac (zaa 0) aNil) (f1 fSum))))
def zbc:FC:=runF [false] 1 zet
def zdC:SF:=(sIf (gNot (zdM ↥0 (zaa 1) (eB (zac (eIx (zaa 0) ↥1) aNil) (f1 fLen)) (fun i j=>decide (i<=j)) (fun i j=>decide (i < j)))) sBad sNil)
def zbF:FC:=runF [false,false] 2 zdC
def zcd:SF:=(sSeq (za3 (zae [false,false,false] zap (zac (zaa 0) (zac (zaa 1) (zac (zaa 2) aNil)))))
  (sSeq (za3 (zae [false,false] zbF (zac (zaa 0) (zac (zaa 3) aNil))))
  (za3 (zae [false] zaT (zac (zaa 0) aNil)))))
def zaL:FC:=runF [false,false,false,false] 4 zcd
def zgt:SF:=(sSeq (za3 (zae [false,false,false,false] zaL (zac (zaa 0) (zac (zaa 1) (zac (zaa 2) (zac (zaa 3) aNil))))))
  (sSeq (sAsg coe (eIx (eIx (zaa 0) ↥1) (zaa 3)) (gtT (zah (gtN 4) (zah (gtN 5) (zah (gtN 6) zbl)))))
  (sSeq (sAsg coe (zae [false,false,false] zat (zac (zaa 0) (zac (zaa 1) (zac (zaa 4) aNil)))) (gtN 7))
  (sSeq (sAsg coe (zae [false,false,false] zat (zac (zaa 0) (zac (zaa 5) (zac (zaa 2) aNil)))) (gtN 8))
  (sSeq (sIf (gOr (tst (e2 (eIx (zaa 7) ↥0) (eC (.str "none")) (fEq false))) (tst (e2 (eIx (zaa 8) ↥0) (eC (.str "none")) (fEq false)))) (sRet mov (eC .none)) sNil)
  (sSeq (sAsg coe (e2 (e2 (eIx (zaa 7) ↥1) (zay coes .l (zac (zaa 3) aNil)) fAdd) (eIx (zaa 8) ↥1) fAdd) (gtN 9))
  (sRet mov (zay movs mkT (zac (zae [false,false] za8 (zac (zaa 0) (zac (zaa 9) aNil))) (zac (zaa 9) aNil))))))))))
def zcE:FC:=runF [false,false,false,false] 10 zgt
end My
end
namespace My
open PySem L2
theorem zeO {n k:Int} {rs:List Road} (hk:0<=k/\k < rs.length):zbF [.d (netD n rs),⇑k]=.ok (.d .none) []:=by
 have gn:=zgM (n:=n) (rs:=rs) (ρ:=[.d (netD n rs),⇑k]) (j:=0) rfl;unfold zbF zdC;generalize netD n rs=Nd at *;simp[gn,-zdS,els,hk.1,hk.2]
theorem zgk {n one other k:Int} {rs:List Road} (ok:zaw n rs) (T:Taut rs) (h1:0<=one/\one < n) (h2:0<=other/\other < n) (hk:0<=k/\k < rs.length):zaL [.d (netD n rs),⇑one,⇑other,⇑k]=.ok (.d .none) []:=by
 have c1:=zba ok h1 h2;have c2:=zeO (n:=n) hk;have c3:=zb6 ok T;unfold zaL zcd;generalize netD n rs=Nd at *;exact (znM rfl (zag (zaW (za2 (zab rfl (zab rfl (zab rfl rfl rfl) rfl) rfl) rfl c1 rfl)) (zag (zaW (za2 (zab rfl (zab rfl rfl rfl) rfl) rfl c2 rfl)) (zaW (za2 (zab rfl rfl rfl) rfl c3 rfl)))) rfl)
structure BW (rs:List Road) (one other k L:Int) (W:List Int):Prop where
 ld:zaZ rs one other W=true
 ln:zaI rs W=L
 mem:k∈W
 len:W.length<=41
theorem zuf {n one other k:Int} {rs:List Road} {r:Road} {A B a b:List Int} (hr:zaK rs k=some r) (x:LW n rs one r.1 A a) (y:LW n rs r.2.1 other B b):BW rs one other k (zaI rs A+r.2.2+zaI rs B) (A++[k]++B):=by
 refine ⟨zc7 (zc7 x.ld (zd7 hr)) y.ld, ?_,by simp, ?_⟩
 .rw[zfi,zfi,zct,zdk hr];simp[zaI]
 .have:=x.lW
  have:=y.lW
  simp;omega
theorem zf1 {a b:List Int} (h:a.length+b.length<=1000):fAdd (zad a) (zad b)=some (zad (a++b)):=by
 have ha:=ze6 a;have hb:=ze6 b;have hz:(a.map PyData.int).length+(b.map PyData.int).length<=sizeLine:=by
  have:sizeLine=16777216:=rfl
  simp;omega
 unfold zad;rw[<-ha,<-hb];simp only[fAdd,els,zeE];rw[if_pos hz,<-ze6,List.map_append,List.map_append,List.map_append]
theorem zcT:fEq false (.d (.str "none")) (.d (.str "none"))=some (.d (.bool true)):=by
 have:=znv zjQ
 unfold fEq at this ⊢;simp only[fz_d] at this ⊢
 revert this
 cases SeqAt.shaped (.str (Str.ofString "none"))<;>cases PyData.eqv (.str (Str.ofString "none")) (.str (Str.ofString "none"))<;>simp
namespace By
theorem zjj {n k:Int} {rs:List Road} {r:Road} {w1 w2 w4 w5 w6 w7 w8 w9:O} (hr:zaK rs k=some r):(sAsg coe (eIx (eIx (zaa 0) ↥1) (zaa 3)) (gtT (zah (gtN 4) (zah (gtN 5) (zah (gtN 6) zbl))))) [.d (netD n rs),w1,w2,⇑k,w4,w5,w6,w7,w8,w9]=.nx [.d (netD n rs),w1,w2,⇑k,⇑r.1,⇑r.2.1,⇑r.2.2,w7,w8,w9]:=by
 have gn:=zgM (n:=n) (rs:=rs) (ρ:=[.d (netD n rs),w1,w2,⇑k,w4,w5,w6,w7,w8,w9]) (j:=0) rfl;have gr:=zjt hr;generalize netD n rs=Nd at *;simp[gn,gr,-zdS,-zcq,els,zar]
theorem b_a {N:PyData} {w2 w3 w5 w6 w7 w8 w9:O} {p s:Int} {ts:List O} {Fl:FC} (h:Fl [.d N,⇑p,⇑s]=.ok (.t ts) []):(sAsg coe (zae [false,false,false] Fl (zac (zaa 0) (zac (zaa 1) (zac (zaa 4) aNil)))) (gtN 7)) [.d N,⇑p,w2,w3,⇑s,w5,w6,w7,w8,w9]=.nx [.d N,⇑p,w2,w3,⇑s,w5,w6,.t ts,w8,w9]:=by
 exact (zao (zas (zab rfl (zab rfl (zab rfl rfl rfl) rfl) rfl) rfl h rfl rfl) rfl rfl)
theorem b_b {N:PyData} {w1 w3 w4 w6 w7 w8 w9:O} {q s:Int} {ts:List O} {Fl:FC} (h:Fl [.d N,⇑s,⇑q]=.ok (.t ts) []):(sAsg coe (zae [false,false,false] Fl (zac (zaa 0) (zac (zaa 5) (zac (zaa 2) aNil)))) (gtN 8)) [.d N,w1,⇑q,w3,w4,⇑s,w6,w7,w8,w9]=.nx [.d N,w1,⇑q,w3,w4,⇑s,w6,w7,.t ts,w9]:=by
 exact (zao (zas (zab rfl (zab rfl (zab rfl rfl rfl) rfl) rfl) rfl h rfl rfl) rfl rfl)
theorem b_if {w0 w1 w2 w3 w4 w5 w6 w9:O} {s t u:Str} {x y:List O} {a b:Bool} (h1:fEq false (.d (.str s)) (.d (.str u))=some (.d (.bool a))) (h2:fEq false (.d (.str t)) (.d (.str u))=some (.d (.bool b))) :
  ∃q,(gOr (tst (e2 (eIx (zaa 7) ↥0) (eC (.str u)) (fEq false))) (tst (e2 (eIx (zaa 8) ↥0) (eC (.str u)) (fEq false)))) [w0,w1,w2,w3,w4,w5,w6,.t (.d (.str s)::x),.t (.d (.str t)::y),w9]=.ok (a || b) [w0,w1,w2,w3,w4,w5,w6,.t (.d (.str s)::x),.t (.d (.str t)::y),w9] q:=by
 have g7:∀ρ:Rho,ρ[7]? = some (.t (.d (.str s)::x))->gIx ρ (.at 7 []) 0=some (.own (.d (.str s))):=fun ρ z=>by
  have:ixN (x.length+1) 0=some 0:=by unfold ixN;rw[if_pos ∅,if_pos ∅];rfl
  simp[z,els,this]
 have g8:∀ρ:Rho,ρ[8]? = some (.t (.d (.str t)::y))->gIx ρ (.at 8 []) 0=some (.own (.d (.str t))):=fun ρ z=>by
  have:ixN (y.length+1) 0=some 0:=by unfold ixN;rw[if_pos ∅,if_pos ∅];rfl
  simp[z,els,this]
 cases a
 .exact ⟨_,by simp[g7,g8,h1,h2,-zdS];rfl⟩
 .exact ⟨_,by simp[g7,g8,h1,h2,-zdS];rfl⟩
theorem zoK {w0 w1 w2 w4 w5 w6:O} {k:Int} {c d:PyData} {x y:O} {A B:List Int} (hl:A.length+B.length<=900):(sAsg coe (e2 (e2 (eIx (zaa 7) ↥1) (zay coes .l (zac (zaa 3) aNil)) fAdd) (eIx (zaa 8) ↥1) fAdd) (gtN 9)) [w0,w1,w2,⇑k,w4,w5,w6,.t [.d c,zad A,x],.t [.d d,zad B,y],.z]=.nx [w0,w1,w2,⇑k,w4,w5,w6,.t [.d c,zad A,x],.t [.d d,zad B,y],zad (A++[k]++B)]:=by
 have a1:=zf1 (a:=A) (b:=[k]) (by simp;omega);have a2:=zf1 (a:=A++[k]) (b:=B) (by simp;omega);have g7:gIx [w0,w1,w2,⇑k,w4,w5,w6,.t [.d c,zad A,x],.t [.d d,zad B,y],.z] (.at 7 []) 1=some (.at 7 [1]):=rfl;have g8:gIx [w0,w1,w2,⇑k,w4,w5,w6,.t [.d c,zad A,x],.t [.d d,zad B,y],.z] (.at 8 []) 1=some (.at 8 [1]):=rfl;have v7:vn [w0,w1,w2,⇑k,w4,w5,w6,.t [.d c,zad A,x],.t [.d d,zad B,y],.z] (.at 7 [1])=some (zad A):=rfl;have v8:vn [w0,w1,w2,⇑k,w4,w5,w6,.t [.d c,zad A,x],.t [.d d,zad B,y],.z] (.at 8 [1])=some (zad B):=rfl;have p7:∀q,pok [w0,w1,w2,⇑k,w4,w5,w6,.t [.d c,zad A,x],.t [.d d,zad B,y],.z] q (.at 7 [1])=q:=fun q=>by simp[pok,vw,sub]
 have p8:∀q,pok [w0,w1,w2,⇑k,w4,w5,w6,.t [.d c,zad A,x],.t [.d d,zad B,y],.z] q (.at 8 [1])=q:=fun q=>by simp[pok,vw,sub]
 have a1':fAdd (zad A) (.l [⇑k])=some (zad (A++[k])):=a1;unfold zad at *;generalize (A++[k]++B).map (fun h=>O.d (PyData.int h))=Z at *;generalize (A++[k]).map (fun h=>O.d (PyData.int h))=Y at *;exact (zao (zau (zau (za6 rfl (zaD rfl rfl rfl) rfl g7) (zax (zab rfl rfl rfl) rfl (nlq rfl) rfl) rfl rfl rfl a1') (za6 rfl (zaD rfl rfl rfl) rfl g8) rfl rfl rfl a2) rfl rfl)
theorem zoW {N:PyData} {w1 w2 w3 w4 w5 w6 w7 w8:O} {L:Int} {os:List O} {Iw:PyData} {Fl:FC} (fo:fz (.l os)=some Iw) (h:Fl [.d N,.d Iw]=.ok ⇑L []):∃ρ',(sRet mov (zay movs mkT (zac (zae [false,false] Fl (zac (zaa 0) (zac (zaa 9) aNil))) (zac (zaa 9) aNil)))) [.d N,w1,w2,w3,w4,w5,w6,w7,w8,.l os]=.rt (.t [⇑L,.l os]) ρ':=by
 have hm:mkT [⇑L,.l os]=.t [⇑L,.l os]:=rfl;exact ⟨_,by exact (zaS (zax (zab (za2 (zab rfl (zab rfl rfl rfl) rfl) (zbE rfl (zbE (zfD rfl fo) rfl)) h rfl) (zab rfl rfl rfl) rfl) rfl (nlq rfl) rfl) rfl)⟩
end By
theorem zti {n one other k:Int} {rs:List Road} {r:Road} (ok:zaw n rs) (T:Taut rs) (h1:0<=one/\one < n) (h2:0<=other/\other < n) (hr:zaK rs k=some r) :
  (((∀L,¬Wk rs one r.1 L)\/(∀L,¬Wk rs r.2.1 other L))/\zcE [.d (netD n rs),⇑one,⇑other,⇑k]=.ok (.d .none) [])\/
  (∃W a b,Dist rs one r.1 a/\Dist rs r.2.1 other b/\BW rs one other k (a+r.2.2+b) W/\zcE [.d (netD n rs),⇑one,⇑other,⇑k]=.ok (.t [⇑(a+r.2.2+b),zad W]) []):=by
 obtain ⟨k0,k1,_⟩:=za9 hr;obtain ⟨r1,r2,_⟩:=ok.rd r (zbz hr);have c1:(za3 (zae [false,false,false,false] zaL (zac (zaa 0) (zac (zaa 1) (zac (zaa 2) (zac (zaa 3) aNil)))))) [.d (netD n rs),⇑one,⇑other,⇑k,.z,.z,.z,.z,.z,.z]=.nx [.d (netD n rs),⇑one,⇑other,⇑k,.z,.z,.z,.z,.z,.z]:=by
  have:=zgk ok T h1 h2 ⟨k0,k1⟩
  generalize netD n rs=Nd at *;exact (zaW (za2 (zab rfl (zab rfl (zab rfl (zab rfl rfl rfl) rfl) rfl) rfl) rfl this rfl))
 have fin:∀o ρ',zgt [.d (netD n rs),⇑one,⇑other,⇑k,.z,.z,.z,.z,.z,.z]=.rt o ρ'->zcE [.d (netD n rs),⇑one,⇑other,⇑k]=.ok o []:=fun o ρ' h=>by
  refine Eq.trans ?_ (congrArg (Rc.ok _) (zjT ρ'));exact zfm (ms:=[false,false,false,false]) (n:=10) (S:=zgt) (os:=[.d (netD n rs),⇑one,⇑other,⇑k]) h
 have non:∀(s t:Str) (x y:List O) (a b:Bool),zat [.d (netD n rs),⇑one,⇑r.1]=.ok (.t (.d (.str s)::x)) []->zat [.d (netD n rs),⇑r.2.1,⇑other]=.ok (.t (.d (.str t)::y)) []->fEq false (.d (.str s)) (.d (.str "none"))=some (.d (.bool a))->fEq false (.d (.str t)) (.d (.str "none"))=some (.d (.bool b))->(a || b)=true->zcE [.d (netD n rs),⇑one,⇑other,⇑k]=.ok (.d .none) []:=fun s t x y a b e1 e2 f1 f2 z=>by
  obtain ⟨q,tt⟩:=By.b_if (w0:=.d (netD n rs)) (w1:=⇑one) (w2:=⇑other) (w3:=⇑k) (w4:=⇑r.1) (w5:=⇑r.2.1) (w6:=⇑r.2.2) (w9:=.z) (x:=x) (y:=y) f1 f2;rw[z] at tt;exact fin _ _ (zag c1 (zag (By.zjj hr) (zag (By.b_a e1) (zag (By.b_b e2) (zoN ((zp7 tt).trans (zaS rfl rfl)))))))
 rcases zcK ok T h1 r1 with ⟨na,R,e1,_⟩ | ⟨A,ha,e1,la⟩
 .rcases zcK ok T r2 h2 with ⟨nb,R',e2,_⟩ | ⟨B,hb,e2,lb⟩
  .exact .inl ⟨.inl na,non _ _ _ _ _ _ e1 e2 zcT zcT rfl⟩
  .exact .inl ⟨.inl na,non _ _ _ _ _ _ e1 e2 zcT zdp rfl⟩
 .rcases zcK ok T r2 h2 with ⟨nb,R',e2,_⟩ | ⟨B,hb,e2,lb⟩
  .exact .inl ⟨.inr nb,non _ _ _ _ _ _ e1 e2 zdp zcT rfl⟩
  .have lA:=la.lW;have lB:=lb.lW;have bw:=zuf hr la lb;refine .inr ⟨A++[k]++B,_,_,la.ds,lb.ds,bw, ?_⟩;obtain ⟨q,tt⟩:=By.b_if (w0:=.d (netD n rs)) (w1:=⇑one) (w2:=⇑other) (w3:=⇑k) (w4:=⇑r.1) (w5:=⇑r.2.1) (w6:=⇑r.2.2) (w9:=.z) (x:=[zad A,zad ha]) (y:=[zad B,zad hb]) zdp zdp;have wl:=zdR (n:=n) (rs:=rs) (ws:=A++[k]++B) (by simp;omega) (zem bw.ld);rw[bw.ln] at wl;obtain ⟨ρ',rt⟩:=By.zoW (w1:=⇑one) (w2:=⇑other) (w3:=⇑k) (w4:=⇑r.1) (w5:=⇑r.2.1) (w6:=⇑r.2.2) (w7:=.t [.d (.str "way"),zad A,zad ha]) (w8:=.t [.d (.str "way"),zad B,zad hb]) (zce (A++[k]++B)) wl;exact fin _ _ (zag c1 (zag (By.zjj hr) (zag (By.b_a e1) (zag (By.b_b e2) (zag (zt4 tt) (zag (By.zoK ∅) rt))))))
theorem zo2 {n:Nat} {s t:Tab} (hs:Shape n s) (ht:Shape n t) (h:∀i j,i < n->j < n->cell s i j=cell t i j):s=t:=by
 apply List.ext_getElem (hs.len.trans ht.len.symm);intro i h1 h2;have l1:=hs.row _ (List.getElem_mem h1);have l2:=ht.row _ (List.getElem_mem h2);apply List.ext_getElem (l1.trans l2.symm);intro j h3 h4
 have:=h i j (by rw[<-hs.len];exact h1) (by rw[<-l1];exact h3)
 unfold cell at this;simpa [h1,h2,h3,h4] using this
end My
namespace L2
open PySem PySem.Spec PyProof.Rows
def movp (ρ:Rho):Rv->Option (O×Rho)
 | .at i [k]=>match ρ[i]? with
  | some (.t os)=>match os[k]? with
   | some (.l ys)=>some (.l ys,ρ.set i (.t (os.set k .z)))
   | _=>mov ρ (.at i [k])
  | _=>mov ρ (.at i [k])
 | r=>mov ρ r
def zeC (ρ:Rho):List Rv->Option (List O×Rho)
 | []=>some ([],ρ)
 | r::rs=>match movp ρ r with
  | some (o,ρ1)=>match zeC ρ1 rs with
   | some (os,ρ2)=>some (o::os,ρ2)
   | none=>none
  | none=>none
section
variable {mg:Str->Option Value} {K:PySem.W.Frag} {H:Hp} {W:Addr->Prop} {σ:St} {ρ ρ':Rho} {f g:Fp}
theorem zox {r:Rv} {v:V} {B:List Addr} {o:O} (s:Sl mg K H W σ ρ f) (sb:∀x,Inn f x->W x) (h:RvOk mg K H W σ v r B) (hB:∀x∈B,W x/\¬Inn f x) (e:movp ρ r=some (o,ρ')) :
  ∃W' f',Sl mg K H W' σ ρ' f'/\Gv W f W' f'/\∃B',Ow mg K H W' v o B'/\B'.Nodup/\∀x∈B',(x∈B\/Inn f x)/\W' x/\¬Inn f' x:=by
 unfold movp at e;split at e
 .rename_i i k;split at e
  .rename_i os hi;split at e
   .rename_i ys hk;cases e;obtain ⟨_,u,h1,h2⟩:=h;rcases s.sl i _ hi with ⟨z,_⟩ | ⟨v',g1,g2⟩
    .cases z
    .rw[h1] at g1;cases g1
     cases g2 with
     | @t a vs _ _ nw ha tt=>
      obtain ⟨w,A,Bs,e1,e2,e3,e4⟩:=tt.lend hk;obtain ⟨a',vs',w',ea,hv,ew,ee⟩:=h2;cases ea;have hvs:vs'=vs:=by rcases hv with hv | hv<;>rw[ha] at hv<;>cases hv<;>rfl
      subst hvs;rw[e1] at ew;cases ew
      cases (show w=v from ee)
      have nd:=e4.nodup_iff.mpr (s.fam.nd i);have nd':=List.nodup_append.mp nd;have inA:∀x∈A,x∈f i:=fun x hx=>e4.subset (List.mem_append_left _ hx)
      have inB:∀x∈Bs,x∈f i:=fun x hx=>e4.subset (List.mem_append_right _ hx)
      refine ⟨W,fset f i Bs,s.setS h1 (.t nw ha e3) nd'.2.1 (fun x hx j hj=>s.fam.ap i j (Ne.symm hj) x (inB x hx)),⟨fun _ h=>h,fun _ h=>.inr h,fun x h=>h.set.elim id fun z=>⟨i,inB x z⟩,fun x h=>sb x (h.set.elim id fun z=>⟨i,inB x z⟩)⟩,A,e2,nd'.1,fun x hx=>⟨.inr ⟨i,inA x hx⟩,sb x ⟨i,inA x hx⟩,fun ⟨j,hj⟩=>?_⟩⟩
      by_cases ej:j=i
      .subst ej;rw[zbr] at hj;exact nd'.2.2 x hx x hj rfl
      .rw[zbI ej] at hj;exact s.fam.ap j i ej x hj (inA x hx)
   .exact zid s sb h hB e
  .exact zid s sb h hB e
 .exact zid s sb h hB e
theorem zjz:∀{rs:List Rv} {vs:List V} {W:Addr->Prop} {ρ ρ':Rho} {f g:Fp} {os:List O},Sl mg K H W σ ρ f->(∀x,Inn f x->W x)->Rvs mg K H W σ vs rs g->(∀x,Inn g x->W x/\¬Inn f x)->zeC ρ rs=some (os,ρ')->
  ∃W' f',Sl mg K H W' σ ρ' f'/\Gv W f W' f'/\∃As,Ows mg K H W' vs os As/\As.Nodup/\∀x∈As,(Inn g x\/Inn f x)/\W' x/\¬Inn f' x
 | [],vs,W,ρ,ρ',f,g,os,s,sb,h,hg,e=>by
  cases e
  cases vs with
  | nil=>exact ⟨W,f,s,.refl sb,[],.nil,List.nodup_nil,fun _ z=>nomatch z⟩
  | cons v vs=>have:=h.len;simp at this
 | r::rs,vs,W,ρ,ρ',f,g,os,s,sb,h,hg,e=>by
  obtain ⟨v,us,rfl,h0,ht⟩:=h.tail;rw[zeC] at e
  cases a:movp ρ r with
  | none=>rw[a] at e;cases e
  | some z=>
   obtain ⟨o,ρ1⟩:=z;rw[a] at e;dsimp only at e
   cases b:zeC ρ1 rs with
   | none=>rw[b] at e;cases e
   | some z=>
    obtain ⟨os',ρ2⟩:=z;rw[b] at e;cases e;obtain ⟨W1,f1,s1,g1,B,o1,nd1,in1⟩:=zox s sb h0 (fun x hx=>hg x ⟨0,hx⟩) a;have hg1:∀x,Inn g x->W1 x/\¬Inn f1 x:=fun x hx=>⟨(g1.more x (hg x hx).1).resolve_left (hg x hx).2,fun z=>(hg x hx).2 (g1.ours x z)⟩
    obtain ⟨W2,f2,s2,g2,As,o2,nd2,in2⟩:=zjz s1 g1.sub (ht.weak g1.less) (fun x ⟨k,hk⟩=>hg1 x ⟨k+1,hk⟩) b;refine ⟨W2,f2,s2,g1.trans g2,B++As,.cons (o1.on (DMv.weak g2.less) fun _ _=>rfl) o2,List.nodup_append.mpr ⟨nd1,nd2,fun x hx y hy z=>?_⟩,fun x hx=>?_⟩
    .subst z;rcases (in2 x hy).1 with ⟨k,hk⟩ | q
     .rcases (in1 x hx).1 with r | r
      .exact h.fam.ap 0 (k+1) ∅ x r hk
      .exact (hg x ⟨k+1,hk⟩).2 r
     .exact (in1 x hx).2.2 q
    .rcases List.mem_append.mp hx with hx | hx
     .obtain ⟨q1,q2,q3⟩:=in1 x hx;exact ⟨q1.imp (fun z=>⟨0,z⟩) id,(g2.more x q2).resolve_left q3,fun z=>q3 (g2.ours x z)⟩
     .obtain ⟨q1,q2,q3⟩:=in2 x hx;exact ⟨q1.elim (fun ⟨k,hk⟩=>.inl ⟨k+1,hk⟩) fun z=>.inr (g1.ours x z),q2,q3⟩
theorem zgg:Take zeC:=@zjz
end
section
variable {mg:Str->Option Value} {K:PySem.W.Frag} {H:Hp} {W:Addr->Prop}
end
section
variable {mg:Str->Option Value} {K:PySem.W.Frag} {E:XK}
end
section
variable {X:Cx} {E:XK} {L:List Nat} {scope:Scope} {pos:Pos} {N':List Str}
end
section
variable {mg:Str->Option Value} {K:PySem.W.Frag} {E:XK}
end
section
variable {X:Cx} {E:XK} {L:List Nat} {scope:Scope} {pos:Pos} {N':List Str}
end
end L2
noncomputable section
namespace My
open PySem L2
def zf3:SF:=(sSeq (za3 (zae [false] zbf (zac (zaa 0) aNil)))
  (sSeq (za3 (zae [false,false] zbF (zac (zaa 0) (zac (zaa 1) aNil))))
  (sSeq (za3 (zae [false] zaT (zac (zaa 0) aNil)))
  (sSeq (sAsg coe (eIx (eIx (zaa 0) ↥1) (zaa 1)) (gtT (zah (gtN 2) (zah (gtN 3) (zah (gtN 4) zbl)))))
  (sSeq (sAsg coe (zae [false,false,false] zat (zac (zaa 0) (zac (zaa 3) (zac (zaa 2) aNil)))) (gtN 5))
  (sSeq (sIf (tst (e2 (eIx (zaa 5) ↥0) (eC (.str "none")) (fEq false))) (sRet mov (zay zeC mkT (zac (eC (.str "free")) (zac (eIx (zaa 5) ↥1) aNil)))) sNil)
  (sSeq (sAsg coe (e2 (zay coes .l (zac (zaa 1) aNil)) (eIx (zaa 5) ↥1) fAdd) (gtN 6))
  (sRet mov (zay zeC mkT (zac (eC (.str "fall")) (zac (zae [false,false] za8 (zac (zaa 0) (zac (zaa 6) aNil))) (zac (zaa 6) (zac (eIx (zaa 5) ↥2) aNil)))))))))))))
def zbY:FC:=runF [false,false] 7 zf3
end My
end
namespace My
open PySem L2
theorem zon {ds:List PyData} {a:Int} (h0:0<=a) (h1:a<=ds.length):fSl (.l (ds.map O.d)) none (some a)=some (.l ((ds.take a.toNat).map O.d)):=by
 have e:HT.sIx ds.length ds.length (some a)=a.toNat:=by
  show (if a < 0 then (a+(ds.length:Int)).toNat else min a.toNat ds.length)=a.toNat
  rw[if_neg ∅];omega
 have e0:HT.sIx ds.length 0 none=0:=rfl;unfold fSl;simp only[els,zeE];unfold cutD;rw[e,e0,List.drop_zero,Nat.sub_zero]
theorem zlx {ds:List PyData} {a:Int} (h0:0<=a) (h1:a<=ds.length):fSl (.l (ds.map O.d)) (some a) none=some (.l ((ds.drop a.toNat).map O.d)):=by
 have e:HT.sIx ds.length 0 (some a)=a.toNat:=by
  show (if a < 0 then (a+(ds.length:Int)).toNat else min a.toNat ds.length)=a.toNat
  rw[if_neg ∅];omega
 have e0:HT.sIx ds.length ds.length none=ds.length:=rfl;unfold fSl;simp only[els,zeE];unfold cutD;rw[e,e0]
 congr 3
 apply List.take_of_length_le;rw[List.length_drop];omega
theorem znd (rs:List Road):zbA rs=.l ((rs.map zar).map O.d):=by
 unfold zbA;rw[List.map_map];rfl
namespace F24
theorem ztS (ρ:Rho):zcx [false,false] ρ=[]:=by
 cases ρ with
 | nil=>rfl
 | cons a ρ=>cases ρ<;>rfl
theorem zrU {w0 w1 w2 w3 w4 w6:O} {os:List O} (nn:fEq false (.d (.str "none")) (.d (.str "none"))=some (.d (.bool true))) :
  (sIf (tst (e2 (eIx (zaa 5) ↥0) (eC (.str "none")) (fEq false))) (sRet mov (zay zeC mkT (zac (eC (.str "free")) (zac (eIx (zaa 5) ↥1) aNil)))) sNil) [w0,w1,w2,w3,w4,.t [.d (.str "none"),.l os],w6]=.rt (.t [.d (.str "free"),.l os]) [w0,w1,w2,w3,w4,.t [.d (.str "none"),.z],w6]:=by
 exact if_t (zaR (zau (za6 rfl (zaD rfl rfl rfl) rfl rfl) rfl rfl rfl rfl nn) rfl) (zaS (zax (zab rfl (zab (za6 rfl (zaD rfl rfl rfl) rfl rfl) rfl rfl) rfl) rfl (nlq rfl) rfl) rfl)
theorem zoK {w0 w1 w2 w3 w4 w6 x y:O} (nn:fEq false (.d (.str "way")) (.d (.str "none"))=some (.d (.bool false))) :
  (sIf (tst (e2 (eIx (zaa 5) ↥0) (eC (.str "none")) (fEq false))) (sRet mov (zay zeC mkT (zac (eC (.str "free")) (zac (eIx (zaa 5) ↥1) aNil)))) sNil) [w0,w1,w2,w3,w4,.t [.d (.str "way"),x,y],w6]=.nx [w0,w1,w2,w3,w4,.t [.d (.str "way"),x,y],w6]:=
 if_f (zaR (zau (za6 rfl (zaD rfl rfl rfl) rfl rfl) rfl rfl rfl rfl nn) rfl) rfl
theorem zrg {w0 w2 w3 w4 y:O} {k:Int} {os us:List O} (fa:fAdd (.l [⇑k]) (.l os)=some (.l us)) :
  (sAsg coe (e2 (zay coes .l (zac (zaa 1) aNil)) (eIx (zaa 5) ↥1) fAdd) (gtN 6)) [w0,⇑k,w2,w3,w4,.t [.d (.str "way"),.l os,y],.z]=.nx [w0,⇑k,w2,w3,w4,.t [.d (.str "way"),.l os,y],.l us]:=
 zao (zau (zax (zab rfl rfl rfl) rfl (nlq rfl) rfl) (za6 rfl (zaD rfl rfl rfl) rfl rfl) rfl rfl rfl fa) rfl rfl
theorem zoW {N Iw:PyData} {w1 w2 w3 w4:O} {L:Int} {os us hs:List O} {Fw:FC} (fu:fz (.l us)=some Iw) (h:Fw [.d N,.d Iw]=.ok ⇑L []) :
  (sRet mov (zay zeC mkT (zac (eC (.str "fall")) (zac (zae [false,false] Fw (zac (zaa 0) (zac (zaa 6) aNil))) (zac (zaa 6) (zac (eIx (zaa 5) ↥2) aNil)))))) [.d N,w1,w2,w3,w4,.t [.d (.str "way"),.l os,.l hs],.l us]=.rt (.t [.d (.str "fall"),⇑L,.l us,.l hs]) [.d N,w1,w2,w3,w4,.t [.d (.str "way"),.l os,.z],.z]:=by
 exact zaS (zax (zab rfl (zab (za2 (zab rfl (zab rfl rfl rfl) rfl) (zbE rfl (zbE (zfD rfl fu) rfl)) h rfl) (zab rfl (zab (za6 rfl (zaD rfl rfl rfl) rfl rfl) rfl rfl) rfl) rfl) rfl) rfl (nlq rfl) rfl) rfl
theorem zjj {n k:Int} {rs:List Road} {r:Road} {w2 w3 w4 w5 w6:O} (hr:zaK rs k=some r):(sAsg coe (eIx (eIx (zaa 0) ↥1) (zaa 1)) (gtT (zah (gtN 2) (zah (gtN 3) (zah (gtN 4) zbl))))) [.d (netD n rs),⇑k,w2,w3,w4,w5,w6]=.nx [.d (netD n rs),⇑k,⇑r.1,⇑r.2.1,⇑r.2.2,w5,w6]:=by
 have gn:=zgM (n:=n) (rs:=rs) (ρ:=[.d (netD n rs),⇑k,w2,w3,w4,w5,w6]) (j:=0) rfl;have gr:=zjt hr;generalize netD n rs=Nd at *;simp[gn,gr,-zdS,-zcq,els,zar]
theorem zkJ {N:PyData} {w1 w4 w5 w6:O} {p q:Int} {ts:List O} {Fl:FC} (h:Fl [.d N,⇑q,⇑p]=.ok (.t ts) []):(sAsg coe (zae [false,false,false] Fl (zac (zaa 0) (zac (zaa 3) (zac (zaa 2) aNil)))) (gtN 5)) [.d N,w1,⇑p,⇑q,w4,w5,w6]=.nx [.d N,w1,⇑p,⇑q,w4,.t ts,w6]:=
 zao (zas (zab rfl (zab rfl (zab rfl rfl rfl) rfl) rfl) rfl h rfl rfl) rfl rfl
theorem zoL {n k:Int} {rs:List Road} {r:Road} (ok:zaw n rs) (T:Taut rs) (hr:zaK rs k=some r) :
  ((∀M,¬Wk rs r.2.1 r.1 M)/\∃R,zbY [.d (netD n rs),⇑k]=.ok (.t [.d (.str "free"),zad (zdh R)]) []/\Rch n rs r.2.1 R)\/
  (∃W hs,LW n rs r.2.1 r.1 W hs/\zbY [.d (netD n rs),⇑k]=.ok (.t [.d (.str "fall"),⇑(r.2.2+zaI rs W),zad (k::W),zad hs]) []):=by
 obtain ⟨k0,k1,_⟩:=za9 hr;obtain ⟨r1,r2,_⟩:=ok.rd r (zbz hr);have c1:=zdm ok;have c2:=zeO (n:=n) (rs:=rs) (k:=k) ⟨k0,k1⟩;have c3:=zb6 ok T;have b4:=fun w2 w3 w4 w5 w6=>zjj (n:=n) (w2:=w2) (w3:=w3) (w4:=w4) (w5:=w5) (w6:=w6) hr
 have fin:∀o ρ',(sSeq (sAsg coe (zae [false,false,false] zat (zac (zaa 0) (zac (zaa 3) (zac (zaa 2) aNil)))) (gtN 5))
  (sSeq (sIf (tst (e2 (eIx (zaa 5) ↥0) (eC (.str "none")) (fEq false))) (sRet mov (zay zeC mkT (zac (eC (.str "free")) (zac (eIx (zaa 5) ↥1) aNil)))) sNil)
  (sSeq (sAsg coe (e2 (zay coes .l (zac (zaa 1) aNil)) (eIx (zaa 5) ↥1) fAdd) (gtN 6))
  (sRet mov (zay zeC mkT (zac (eC (.str "fall")) (zac (zae [false,false] za8 (zac (zaa 0) (zac (zaa 6) aNil))) (zac (zaa 6) (zac (eIx (zaa 5) ↥2) aNil))))))))) [.d (netD n rs),⇑k,⇑r.1,⇑r.2.1,⇑r.2.2,.z,.z]=.rt o ρ'->zbY [.d (netD n rs),⇑k]=.ok o []:=fun o ρ' h=>by
  refine Eq.trans ?_ (congrArg (Rc.ok _) (ztS ρ'));refine zfm (ms:=[false,false]) (n:=7) (S:=zf3) (os:=[.d (netD n rs),⇑k]) ?_;generalize netD n rs=Nd at *;exact zag (zaW (za2 (zab rfl rfl rfl) rfl c1 rfl)) (zag (zaW (za2 (zab rfl (zab rfl rfl rfl) rfl) rfl c2 rfl)) (zag (zaW (za2 (zab rfl rfl rfl) rfl c3 rfl)) (zag (b4 _ _ _ _ _) h)))
 rcases zcK ok T r2 r1 with ⟨no,R,e1,hR⟩ | ⟨W,hs,e1,lw⟩
 .exact .inl ⟨no,R,fin _ _ (zag (zkJ e1) (zd5 (zrU zcT))),hR⟩
 .have lW:=lw.lW;have ld:zaZ rs r.1 r.1 (k::W)=true:=by
   have:=zc7 (zd7 hr) lw.ld
   exact this
  have wl:=zdR (n:=n) (rs:=rs) (ws:=k::W) (by simp;omega) (zem ld);have e2:zaI rs (k::W)=r.2.2+zaI rs W:=by rw[zct,zdk hr]
  have fa:=zf1 (a:=[k]) (b:=W) (by simp;omega);rw[e2] at wl;exact .inr ⟨W,hs,lw,fin _ _ (zag (zkJ e1) (zag (zoK zdp) (zag (zrg fa) (zoW (zce (k::W)) wl))))⟩
theorem znq {ds:List PyData} {a:Int} (h0:0<=a) (h1:a<=ds.length):fSl (.d (.list ds)) none (some a)=some (.l ((ds.take a.toNat).map O.d)):=zon h0 h1
theorem zg0 {ds:List PyData} {a:Int} (h0:0<=a) (h1:a<=ds.length):fSl (.d (.list ds)) (some a) none=some (.l ((ds.drop a.toNat).map O.d)):=zlx h0 h1
theorem zer {ρ:Rho} {i:Nat} {x:PyData} (h:ρ[i]? = some (.d x)):zaa i ρ=.ok (.at i []) ρ true:=by unfold zaa;rw[h]
theorem znZ {ρ:Rho} {i:Nat} {ds:List PyData} {mk:List PyData->List O} (h:ρ[i]? = some (.d (.list ds))):srcM true mk (zaa i) ρ=.ok ((mk ds,none),true) ρ true:=by
 unfold srcM;rw[zer h];simp[zfA,cov,coe,h,sub]
theorem zfR {js:List (Option Nat)} {G:GF} {T:TF} {A:EF} {x o:O} {xs acc os:List O} {ρ ρ1 ρ2 ρ3 ρ4 ρ':Rho} {r:Rv} {q q2 q3 q':Bool} (hg:G x (zdi js ρ)=some ρ1) (ht:T ρ1=.ok true ρ2 q2) (ha:A ρ2=.ok r ρ3 q3) (hc:coe ρ3 r=some (o,ρ4)) (k:lcF js G T A xs (zcy js ρ4 (clrR js ρ)) (acc++[o]) (q&&q2&&q3)=.ok os ρ' q'):lcF js G T A (x::xs) ρ acc q=.ok os ρ' q':=by
 rw[lcF,hg];dsimp only;rw[ht];dsimp only;rw[if_pos rfl,ha];dsimp only;rw[hc];exact k
theorem znS {I:Rho->Re (Src×Bool)} {js:List (Option Nat)} {G:GF} {T:TF} {A:EF} {ρ ρ1 ρ2 ρ3:Rho} {items os:List O} {rs:Option (Nat×O)} {kd q1 q2:Bool} (h:I ρ=.ok ((items,rs),kd) ρ1 q1) (hl:items.length<=sizeLine) (k:lcF js G T A items ρ1 [] true=.ok os ρ2 q2) (hr:ziH rs ρ2=ρ3):eLS I js G T A ρ=.ok (.own (.l os)) ρ3 (q1&&q2):=by
 unfold eLS;rw[h];dsimp only;rw[if_pos hl,k];dsimp only;rw[hr]
end F24
end My
namespace L2
open PySem PySem.Spec PyProof.Rows
section
variable {mg:Str->Option Value} {K:PySem.W.Frag} {H H2:Hp} {W W2:Addr->Prop} {σ σ2:St} {ρ:Rho} {f f2:Fp}
end
section
variable {X:Cx} {E:XK} {L L':List Nat}
end
section
variable {mg:Str->Option Value} {K:PySem.W.Frag} {E:XK}
end
section
variable {X:Cx} {E:XK} {L:List Nat} {scope:Scope} {pos:Pos} {N':List Str}
end
end L2
noncomputable section
namespace My
open PySem L2
def ziv:SF:=(sSeq (sAsg coe (zaa 0) (gtT (zah (gtN 2) (zah (gtN 3) zbl))))
  (sRet coe (zay coes mkT (zac (zaa 2) (zac (e2 (eSl (zaa 3) oNo (zgw (zaa 1))) (eSl (zaa 3) (zgw (e2 (zaa 1) ↥1 fAdd)) oNo) fAdd) aNil)))))
def zdc:FC:=runF [false,false] 4 ziv
def zbh:EF:=(eIf (tst (e2 (zaa 0) (zaa 1) fLt)) (zaa 0) (e2 (zaa 0) ↥1 fAdd))
def zdy:SF:=(sSeq (za3 (zae [false,false,false,false] zaL (zac (zaa 0) (zac (zaa 1) (zac (zaa 2) (zac (zaa 3) aNil))))))
  (sSeq (sAsg coe (zae [false,false,false] zat (zac (eFz (zae [false,false] zdc (zac (zaa 0) (zac (zaa 3) aNil)))) (zac (zaa 1) (zac (zaa 2) aNil)))) (gtN 4))
  (sSeq (sIf (tst (e2 (eIx (zaa 4) ↥0) (eC (.str "none")) (fEq false))) (sRet mov (zaa 4)) sNil)
  (sSeq (sAsg coe (eLS (srcM true (fun ds=>ds.map O.d) (eIx (zaa 4) ↥1)) [none,some 3] (gtN 0) (gRet true) zbh) (gtN 5))
  (sRet mov (zay zeC mkT (zac (eC (.str "way")) (zac (zaa 5) (zac (eIx (zaa 4) ↥2) aNil)))))))))
def zbp:FC:=runF [false,false,false,false] 6 zdy
def zgd:SF:=(sRet coe (zay coes mkT (zac (eIx (zaa 0) ↥0) (zac (e2 (eSl (eIx (zaa 0) ↥1) oNo (zgw (zaa 1))) (eSl (eIx (zaa 0) ↥1) (zgw (e2 (zaa 1) ↥1 fAdd)) oNo) fAdd) aNil))))
def zd9:FC:=runF [false,false] 2 zgd
end My
end
namespace My
open PySem L2
namespace F29
theorem zmA {A:EF} {L U:Rho->Re (Option Int)} {ρ ρ1 ρ2 ρ3:Rho} {ra:Rv} {q1 q2 q3:Bool} {l u:Option Int} {o z:O} (h:A ρ=.ok ra ρ1 q1) (hl:L ρ1=.ok l ρ2 q2) (hu:U ρ2=.ok u ρ3 q3) (p:pok ρ1 (q2&&(q3&&true)) ra=true) (hv:vn ρ3 ra=some o) (hf:fSl o l u=some z) :
  eSl A L U ρ=.ok (.own z) ρ3 (q1&&(q2&&(q3&&true))):=by
 unfold eSl;rw[h];dsimp only[Re.bind];rw[zcg hl (zcg hu rfl)];dsimp only;rw[if_pos p,hv];dsimp only;rw[hf]
theorem zhg {A:EF} {ρ ρ1:Rho} {q:Bool} {i:Int} (h:eSc decI A ρ=.ok i ρ1 q):zgw A ρ=.ok (some i) ρ1 (q&&true):=zcg h rfl
theorem zmF {A:EF} {ρ ρ1:Rho} {q:Bool} {o:O} {x:PyData} (h:A ρ=.ok (.own o) ρ1 q) (f:fz o=some x):eFz A ρ=.ok (.own (.d x)) ρ1 q:=by unfold eFz;rw[h];dsimp only;rw[f]
def za7 (rs:List Road) (k:Nat):List Road:=rs.take k++rs.drop (k+1)
theorem zhM {rs:List Road} {k:Nat} {r:Road} (h:r∈za7 rs k):r∈rs:=(List.mem_append.mp h).elim List.mem_of_mem_take List.mem_of_mem_drop
theorem zfP {n:Int} {rs:List Road} (ok:zaw n rs) (k:Nat):zaw n (za7 rs k):=⟨ok.n0,ok.n1,by have:=ok.len;unfold za7;simp;omega,fun r hr=>ok.rd r (zhM hr)⟩
theorem zdL {rs:List Road} (T:Taut rs) (k:Nat):Taut (za7 rs k):=fun p L w=>T p L (w.sub fun r hr=>zhM hr)
theorem zqB {n:Int} {rs:List Road} {a:Int} (a0:0<=a):netO n (za7 rs a.toNat)=.t [⇑n,.l (((rs.map zar).take a.toNat++(rs.map zar).drop (a+1).toNat).map O.d)]:=by
 unfold netO;rw[znd];unfold za7
 have:(a+1).toNat=a.toNat+1:=by omega
 rw[this,List.map_append,List.map_take,List.map_drop]
section
variable {n k:Int} {ds:List PyData} {as bs cs:List O}
theorem zrG (s1:fSl (.d (.list ds)) none (some k)=some (.l as)) (s2:fSl (.d (.list ds)) (some (k+1)) none=some (.l bs)) (ad:fAdd (.l as) (.l bs)=some (.l cs)):zdc [.d (.tuple [.int n,.list ds]),⇑k]=.ok (.t [⇑n,.l cs]) []:=
 zbn rfl (zag (zao rfl rfl rfl) (zaS (zax (zab rfl (zab (zau (zmA rfl rfl (zhg (zaD rfl rfl rfl)) rfl rfl s1) (zmA rfl (zhg (zaD (zau rfl rfl rfl rfl rfl rfl) rfl rfl)) rfl rfl rfl s2) rfl rfl rfl ad) rfl rfl) rfl) rfl (nlq rfl) rfl) rfl)) rfl
theorem zpJ (s1:fSl (.d (.list ds)) none (some k)=some (.l as)) (s2:fSl (.d (.list ds)) (some (k+1)) none=some (.l bs)) (ad:fAdd (.l as) (.l bs)=some (.l cs)):zd9 [.d (.tuple [.int n,.list ds]),⇑k]=.ok (.t [⇑n,.l cs]) []:=
 zbn rfl (zaS (zax (zab (za6 rfl (zaD rfl rfl rfl) rfl rfl) (zab (zau (zmA (za6 rfl (zaD rfl rfl rfl) rfl rfl) rfl (zhg (zaD rfl rfl rfl)) rfl rfl s1) (zmA (za6 rfl (zaD rfl rfl rfl) rfl rfl) (zhg (zaD (zau rfl rfl rfl rfl rfl rfl) rfl rfl)) rfl rfl rfl s2) rfl rfl rfl ad) rfl rfl) rfl) rfl (nlq rfl) rfl) rfl) rfl
end
theorem zgr {n k:Int} {rs:List Road} (hl:rs.length<=60) (hk:0<=k/\k < rs.length):zdc [.d (netD n rs),⇑k]=.ok (netO n (za7 rs k.toNat)) []/\zd9 [.d (netD n rs),⇑k]=.ok (netO n (za7 rs k.toNat)) []:=by
 have rl:(rs.map zar).length=rs.length:=by simp
 have s1:=F24.znq (ds:=rs.map zar) (a:=k) hk.1 (by rw[rl];omega);have s2:=F24.zg0 (ds:=rs.map zar) (a:=k+1) ∅ (by rw[rl];omega);have ad:fAdd (.l (((rs.map zar).take k.toNat).map O.d)) (.l (((rs.map zar).drop (k+1).toNat).map O.d))=some (.l (((rs.map zar).take k.toNat++(rs.map zar).drop (k+1).toNat).map O.d)):=by
  have z:((rs.map zar).take k.toNat).length+((rs.map zar).drop (k+1).toNat).length<=sizeLine:=zbZ (by simp;omega);unfold fAdd;dsimp only[els];rw[zeE,zeE];dsimp only;rw[if_pos z,List.map_append]
 rw[zqB hk.1];unfold netD zan;exact ⟨zrG s1 s2 ad,zpJ s1 s2 ad⟩
def up (k x:Int):Int:=if x < k then x else x+1
def onI (f:Int->Int):O->O
 | ⇑x=>⇑(f x)
 | o=>o
theorem zoR (f:Int->Int) (W:List Int):((W.map PyData.int).map O.d).map (onI f)=(W.map f).map fun h=>O.d (.int h):=by
 rw[List.map_map,List.map_map,List.map_map];rfl
theorem zdd (xs:List O):(xs.filter fun _=>true)=xs:=List.filter_eq_self.mpr fun _ _=>rfl
theorem zqR {w0 w1 w2 y:O} {k:Int} {s:Str} {W:List Int} (hl:W.length<=1000) :
  ∃q,eLS (srcM true (fun ds=>ds.map O.d) (eIx (zaa 4) ↥1)) [none,some 3] (gtN 0) (gRet true) zbh [w0,w1,w2,⇑k,.t [.d (.str s),zad W,y],.z]=.ok (.own (zad (W.map (up k)))) [w0,w1,w2,⇑k,.t [.d (.str s),zad W,y],.z] q:=by
 obtain ⟨q,e⟩:=zd8 (js:=[none,some 3]) (G:=gtN 0) (T:=gRet true) (A:=zbh) (ρ:=[w0,w1,w2,⇑k,.z,.z]) (fun _=>true) (onI (up k)) (items:=(W.map PyData.int).map O.d) (acc:=[]) (q:=true) (fun o ho=>by
  rw[List.map_map] at ho;obtain ⟨x,hx,rfl⟩:=List.mem_map.mp ho;refine ⟨[⇑x,⇑k],[⇑x,⇑k],true,rfl,rfl,(fun _=>?_),(fun h=>by cases h)⟩;unfold zbh
  by_cases c:x < k
  .exact ⟨.at 0 [],[⇑x,⇑k],true,[⇑x,⇑k],by simp[c],by simp[onI,up,c],rfl⟩
  .exact ⟨.own ⇑(x+1),[⇑x,⇑k],true,[⇑x,⇑k],by simp[c],by simp[onI,up,c],rfl⟩)
 rw[zdd,List.nil_append,zoR] at e;have hm:W.map (fun r=>O.d (.int r))=(W.map PyData.int).map O.d:=by rw[List.map_map];rfl
 have g1:gIx [w0,w1,w2,⇑k,.t [.d (.str s),zad W,y],.z] (.at 4 []) 1=some (.at 4 [1]):=rfl;have vp:zfA [w0,w1,w2,⇑k,.t [.d (.str s),zad W,y],.z] (.at 4 [1])=some (W.map PyData.int,true,4,.t [.d (.str s),zad W,y]):=by
  unfold zad;rw[hm];simp[zfA,sub,-List.map_map]
 have hx:eIx (zaa 4) ↥1 [w0,w1,w2,⇑k,.t [.d (.str s),zad W,y],.z]=.ok (.at 4 [1]) [w0,w1,w2,⇑k,.t [.d (.str s),zad W,y],.z] (true&&true):=za6 rfl (zaD rfl rfl rfl) rfl g1;have sr:srcM true (fun ds=>ds.map O.d) (eIx (zaa 4) ↥1) [w0,w1,w2,⇑k,.t [.d (.str s),zad W,y],.z]=.ok (((W.map PyData.int).map O.d,some (4,.t [.d (.str s),zad W,y])),true) [w0,w1,w2,⇑k,.z,.z] true:=by
  unfold srcM;rw[hx];dsimp only[Re.bind];rw[vp];rfl
 exact ⟨_,F24.znS sr (zbZ (by simp;omega)) e rfl⟩
theorem zjT (ρ:Rho):zcx [false,false,false,false] ρ=[]:=by
 rcases ρ with _ | ⟨a,_ | ⟨b,_ | ⟨c,_ | ⟨d,e⟩⟩⟩⟩<;>rfl
section
variable {N S:PyData} {p q k:Int} {so os hs us:List O} {Fc Fs Fl:FC} {t:Bool}
theorem zoG (ec:Fc [.d N,⇑p,⇑q,⇑k]=.ok (.d .none) []) (es:Fs [.d N,⇑k]=.ok (.t so) []) (fs:fz (.t so)=some S) (el:Fl [.d S,⇑p,⇑q]=.ok (.t [.d (.str "none"),.l os]) []) :
  ∃ρ',(sSeq (za3 (zae [false,false,false,false] Fc (zac (zaa 0) (zac (zaa 1) (zac (zaa 2) (zac (zaa 3) aNil))))))
  (sSeq (sAsg coe (zae [false,false,false] Fl (zac (eFz (zae [false,false] Fs (zac (zaa 0) (zac (zaa 3) aNil)))) (zac (zaa 1) (zac (zaa 2) aNil)))) (gtN 4))
  (sSeq (sIf (tst (e2 (eIx (zaa 4) ↥0) (eC (.str "none")) (fEq false))) (sRet mov (zaa 4)) sNil)
  (sSeq (sAsg coe (eLS (srcM true (fun ds=>ds.map O.d) (eIx (zaa 4) ↥1)) [none,some 3] (gtN 0) (gRet true) zbh) (gtN 5))
  (sRet mov (zay zeC mkT (zac (eC (.str "way")) (zac (zaa 5) (zac (eIx (zaa 4) ↥2) aNil))))))))) [.d N,⇑p,⇑q,⇑k,.z,.z]=.rt (.t [.d (.str "none"),.l os]) ρ':=
 ⟨_,zag (zaW (za2 (zab rfl (zab rfl (zab rfl (zab rfl rfl rfl) rfl) rfl) rfl) rfl ec rfl)) (zag (zao (zas (zab (zmF (zas (zab rfl (zab rfl rfl rfl) rfl) rfl es rfl rfl) fs) (zab rfl (zab rfl rfl rfl) rfl) rfl) rfl el rfl rfl) rfl rfl) (zd5 (if_t (zaR (zau (za6 rfl (zaD rfl rfl rfl) rfl rfl) rfl rfl rfl rfl zcT) rfl) (zaS rfl rfl))))⟩
theorem zqf (ec:Fc [.d N,⇑p,⇑q,⇑k]=.ok (.d .none) []) (es:Fs [.d N,⇑k]=.ok (.t so) []) (fs:fz (.t so)=some S) (el:Fl [.d S,⇑p,⇑q]=.ok (.t [.d (.str "way"),.l os,.l hs]) [])
  (eu:eLS (srcM true (fun ds=>ds.map O.d) (eIx (zaa 4) ↥1)) [none,some 3] (gtN 0) (gRet true) zbh [.d N,⇑p,⇑q,⇑k,.t [.d (.str "way"),.l os,.l hs],.z]=.ok (.own (.l us)) [.d N,⇑p,⇑q,⇑k,.t [.d (.str "way"),.l os,.l hs],.z] t) :
  ∃ρ',(sSeq (za3 (zae [false,false,false,false] Fc (zac (zaa 0) (zac (zaa 1) (zac (zaa 2) (zac (zaa 3) aNil))))))
  (sSeq (sAsg coe (zae [false,false,false] Fl (zac (eFz (zae [false,false] Fs (zac (zaa 0) (zac (zaa 3) aNil)))) (zac (zaa 1) (zac (zaa 2) aNil)))) (gtN 4))
  (sSeq (sIf (tst (e2 (eIx (zaa 4) ↥0) (eC (.str "none")) (fEq false))) (sRet mov (zaa 4)) sNil)
  (sSeq (sAsg coe (eLS (srcM true (fun ds=>ds.map O.d) (eIx (zaa 4) ↥1)) [none,some 3] (gtN 0) (gRet true) zbh) (gtN 5))
  (sRet mov (zay zeC mkT (zac (eC (.str "way")) (zac (zaa 5) (zac (eIx (zaa 4) ↥2) aNil))))))))) [.d N,⇑p,⇑q,⇑k,.z,.z]=.rt (.t [.d (.str "way"),.l us,.l hs]) ρ':=
 ⟨_,zag (zaW (za2 (zab rfl (zab rfl (zab rfl (zab rfl rfl rfl) rfl) rfl) rfl) rfl ec rfl)) (zag (zao (zas (zab (zmF (zas (zab rfl (zab rfl rfl rfl) rfl) rfl es rfl rfl) fs) (zab rfl (zab rfl rfl rfl) rfl) rfl) rfl el rfl rfl) rfl rfl) (zag (if_f (zaR (zau (za6 rfl (zaD rfl rfl rfl) rfl rfl) rfl rfl rfl rfl zdp) rfl) rfl) (zag (zao eu rfl rfl) (zaS (zax (zab rfl (zab rfl (zab (za6 rfl (zaD rfl rfl rfl) rfl rfl) rfl rfl) rfl) rfl) rfl (nlq rfl) rfl) rfl))))⟩
end
theorem zj6 {n one other k:Int} {rs:List Road} (ok:zaw n rs) (T:Taut rs) (h1:0<=one/\one < n) (h2:0<=other/\other < n) (hk:0<=k/\k < rs.length) :
  ((∀L,¬Wk (za7 rs k.toNat) one other L)/\∃R,zbp [.d (netD n rs),⇑one,⇑other,⇑k]=.ok (.t [.d (.str "none"),zad (zdh R)]) []/\Rch n (za7 rs k.toNat) one R)\/
  (∃W hs,zbp [.d (netD n rs),⇑one,⇑other,⇑k]=.ok (.t [.d (.str "way"),zad (W.map (up k)),zad hs]) []/\LW n (za7 rs k.toNat) one other W hs):=by
 have ec:=zgk ok T h1 h2 hk;have es:=(zgr (n:=n) ok.len hk).1;have fs:=zjB n (za7 rs k.toNat);have fin:∀o ρ',zdy [.d (netD n rs),⇑one,⇑other,⇑k,.z,.z]=.rt o ρ'->zbp [.d (netD n rs),⇑one,⇑other,⇑k]=.ok o []:=fun o ρ' h=>by
  refine Eq.trans ?_ (congrArg (Rc.ok _) (zjT ρ'));exact zfm (ms:=[false,false,false,false]) (n:=6) (S:=zdy) (os:=[.d (netD n rs),⇑one,⇑other,⇑k]) h
 rcases zcK (zfP ok k.toNat) (zdL T k.toNat) h1 h2 with ⟨no,R,e,hR⟩ | ⟨W,hs,e,lw⟩
 .unfold netO zad at *;obtain ⟨ρ',h⟩:=zoG ec es fs e;exact .inl ⟨no,R,fin _ ρ' h,hR⟩
 .obtain ⟨t,eu⟩:=zqR (w0:=.d (netD n rs)) (w1:=⇑one) (w2:=⇑other) (y:=zad hs) (k:=k) (s:="way") (W:=W) (by have:=lw.lW;omega);unfold netO zad at *;obtain ⟨ρ',h⟩:=zqf ec es fs e eu;exact .inr ⟨W,hs,fin _ ρ' h,lw⟩
section
variable {N:PyData} {p q:Int} {to:List O} {Ft Fr Fw Fi Fo Fl Fh:FC} {c L x y:Int}
end
end F29
def byC (c:Option Int) (l:Int) (d:Option Int):Option Int:=match c,d with
 | some a,some b=>some (a+l+b)
 | _,_=>none
theorem zhP (c:Option Int):oD c=optD c:=by cases c<;>rfl
theorem zgm (r:List (Option Int)):fIn false (.d .none) (.d (rowD r))=some (.d (.bool (decide (none∈r)))):=by
 have h:=zfa r;unfold rowD at h ⊢;unfold fIn;rw[fz_d,fz_d];dsimp only;rw[h,zmE];exact rfl
theorem zsn (c d:Option Int) (l:Int):zbc [.l [.d (oD c),⇑l,.d (oD d)]]=.ok (.d (oD (byC c l d))) []:=by
 have fzr:fz (.l [.d (oD c),⇑l,.d (oD d)])=some (rowD [c,some l,d]):=by rw[zhP,zhP];rfl
 have fi:fIn false (.d .none) (.l [.d (oD c),⇑l,.d (oD d)])=some (.d (.bool (decide (none∈[c,some l,d])))):=by
  rw[<-zgm [c,some l,d]];unfold fIn;rw[fzr,fz_d (rowD [c,some l,d])]
 unfold zbc zet
 cases c with
 | none=>
  have z:decide (none∈[none,some l,d])=true:=by simp
  rw[z] at fi;generalize [O.d (oD none),⇑l,.d (oD d)]=R at *;exact (zbn rfl (zd5 (if_t (zaR (zau rfl rfl rfl rfl rfl fi) rfl) (zaS rfl rfl))) rfl)
 | some a=>cases d with
  | none=>
   have z:decide (none∈[some a,some l,none])=true:=by simp
   rw[z] at fi;generalize [O.d (oD (some a)),⇑l,.d (oD none)]=R at *;exact (zbn rfl (zd5 (if_t (zaR (zau rfl rfl rfl rfl rfl fi) rfl) (zaS rfl rfl))) rfl)
  | some b=>
   have z:decide (none∈[some a,some l,some b])=false:=by simp
   have zs:fSum (.l [.d (oD (some a)),⇑l,.d (oD (some b))])=some ⇑(a+l+b):=by
    have:zsOf (.l [.d (oD (some a)),⇑l,.d (oD (some b))])=some [a,l,b]:=rfl
    unfold fSum;rw[this];simp;omega
   rw[z] at fi;generalize [O.d (oD (some a)),⇑l,.d (oD (some b))]=R at *;exact (zbn rfl (zag (if_f (zaR (zau rfl rfl rfl rfl rfl fi) rfl) rfl) (zaS (zfl (zab rfl rfl rfl) rfl zs) rfl)) rfl)
namespace K28
end K28
end My
namespace L2
open PySem PySem.Spec PyProof.Rows
section
variable {mg:Str->Option Value} {K:PySem.W.Frag} {E:XK} {L:List Nat}
end
section
variable {X:Cx} {E:XK} {L:List Nat}
end
section
variable {mg:Str->Option Value} {K:PySem.W.Frag} {H H2:Hp} {W W2:Addr->Prop} {σ:St} {ρ:Rho} {f f2:Fp}
end
end L2
noncomputable section
namespace My
open PySem L2
def zew:SF:=(sIf (tst (e2 (zae [false] zbc (zac (zay coes .l (zac (eIx (eIx (zaa 3) (zaa 1)) (zaa 7)) (zac (zaa 9) (zac (eIx (eIx (zaa 3) (zaa 8)) (zaa 2)) aNil)))) aNil)) (zaa 4) (fEq false))) (za3 (eApp (zaa 5) (zaa 6))) sNil)
def zd3:SF:=(sSeq (za3 (zae [false,false,false] zap (zac (zaa 0) (zac (zaa 1) (zac (zaa 2) aNil)))))
  (sSeq (sAsg coe (zae [false] zaz (zac (zaa 0) aNil)) (gtN 3))
  (sSeq (sAsg coe (eIx (eIx (zaa 3) (zaa 1)) (zaa 2)) (gtN 4))
  (sSeq (sIf (tst (e2 (zaa 4) (eC .none) (fIs false))) (sRet mov (zay movs .l aNil)) sNil)
  (sSeq (sAsg coe (zay coes .l aNil) (gtN 5))
  (sSeq (sFor (itE (eIx (zaa 0) ↥1)) (gtT (zah (gtN 6) (zah (gtT (zah (gtN 7) (zah (gtN 8) (zah (gtN 9) zbl)))) zbl))) zew)
  (sRet mov (zaa 5))))))))
def zbG:FC:=runF [false,false,false] 10 zd3
def zc3:SF:=(sSeq (sAsg coe (eIx (zae [false,false] zaO (zac (eFz (zae [false,false] zdc (zac (zaa 0) (zac (zaa 6) aNil)))) (zac (zaa 1) aNil))) (zaa 2)) (gtN 7))
  (sIf (tst (e2 (zaa 7) (eC .none) (fIs false))) (za3 (eApp (zaa 5) (zay coes mkT (zac (zaa 6) (zac (eC .none) aNil))))) (sIf (tst (e2 (zaa 7) (zaa 4) fGt)) (za3 (eApp (zaa 5) (zay coes mkT (zac (zaa 6) (zac (e2 (zaa 7) (zaa 4) fSub) aNil))))) sNil)))
def zdv:SF:=(sSeq (sAsg coe (zae [false,false,false] zbG (zac (zaa 0) (zac (zaa 1) (zac (zaa 2) aNil)))) (gtN 3))
  (sSeq (sAsg coe (eIx (zae [false,false] zaO (zac (zaa 0) (zac (zaa 1) aNil))) (zaa 2)) (gtN 4))
  (sSeq (sAsg coe (zay coes .l aNil) (gtN 5))
  (sSeq (zg1 (srcM false (fun ds=>ds.map O.d) (zaa 3)) (gtN 6) zc3)
  (sRet mov (zaa 5))))))
def zbm:FC:=runF [false,false,false] 8 zdv
def zef:EF:=(zaa 0)
def zhn:SF:=(sRet coe (eLS (srcM false (fun ds=>ds.map O.d) (zae [false,false,false] zbm (zac (zaa 0) (zac (zaa 1) (zac (zaa 2) aNil))))) [none,none] (gtT (zah (gtN 0) (zah (gtN 1) zbl))) (gRet true) zef))
def zb3:FC:=runF [false,false,false] 3 zhn
end My
end
namespace My
open PySem L2
namespace F30
def cel (n:Int) (rs:List Road) (p q:Int):Option Int:=cell (zaq n.toNat rs) p.toNat q.toNat
def zbo (n:Int) (rs:List Road) (one other:Int) (i:Nat):Bool:=match rs[i]? with
 | some r=>decide (byC (cel n rs one r.1) r.2.2 (cel n rs r.2.1 other)=cel n rs one other)
 | none=>false
def za5 (n:Int) (rs:List Road) (one other:Int) (m:Nat):List Int:=((List.range m).filter (zbo n rs one other)).map fun i:Nat=>(i:Int)
def zaA (n:Int) (rs:List Road) (one other:Int):List Int:=if cel n rs one other=none then [] else za5 n rs one other rs.length
theorem zik {n:Int} {rs:List Road} {one other:Int} {i:Nat}:za5 n rs one other (i+1)=if zbo n rs one other i=true then za5 n rs one other i++[(i:Int)] else za5 n rs one other i:=by
 unfold za5;rw[List.range_succ,List.filter_append,List.map_append]
 cases h:zbo n rs one other i<;>simp[h]
theorem zgJ (n:Int) (rs:List Road) (one other:Int) (m:Nat):(za5 n rs one other m).length<=m:=by
 unfold za5;rw[List.length_map];exact Nat.le_trans (List.length_filter_le _ _) (by simp)
theorem zrE (a b:Option Int):fEq false (.d (oD a)) (.d (oD b))=some (.d (.bool (decide (a=b)))):=by
 cases a with
 | none=>cases b<;>simp[oD,fEq,SeqAt.shaped,PyData.canLay0,PyData.depth,PyData.eqv]
 | some a=>cases b with
  | none=>simp[oD,fEq,SeqAt.shaped,PyData.canLay0,PyData.depth,PyData.eqv]
  | some b=>
   have:=znu a b
   simp only[oD,this,Option.some.injEq]
   by_cases h:a=b<;>simp[h]
theorem zfj (z:Option Int):scl (.d (oD z))=true:=by cases z<;>rfl
theorem zrp (xs:List Int) (k:Int):(xs.map fun h=>O.d (.int h))++[O.d (.int k)]=(xs++[k]).map fun h=>O.d (.int h):=by simp
section
variable {w0:O} {N Tb x y:PyData} {p q k:Int} {os:List O} {Fb:FC} {b:Bool}
end
theorem zo8 {n:Int} {rs:List Road} {ρ:Rho} (h:ρ[0]? = some (.d (netD n rs))):eB (zac (eIx (zaa 0) ↥1) aNil) (f1 fLen) ρ=.ok (.own ⇑(rs.length:Int)) ρ true:=by
 have gn:=zgM (n:=n) (rs:=rs) (ρ:=ρ) (j:=0) h;have fl:fLen (.d (zan rs))=some ⇑(rs.length:Int):=by
  unfold zan;simp[fLen,els]
 have hn:zaa 0 ρ=.ok (.at 0 []) ρ true:=by unfold zaa;rw[h]
 have hi:eIx (zaa 0) ↥1 ρ=.ok (.own (.d (zan rs))) ρ (true&&true):=za6 hn (zaD rfl rfl rfl) (by simp[pok]) gn;exact zfl (zab hi rfl rfl) rfl fl
section
variable {N:PyData} {c d l x y:PyData} {p q k u v:Int} {to os:List O} {Fs:FC} {b:Bool}
theorem zqX (d1:eIx (eIx (zaa 3) (zaa 1)) (zaa 7) [.d N,⇑p,⇑q,.l to,.d y,.l os,⇑k,⇑u,⇑v,.d l]=.ok (.own (.d c)) [.d N,⇑p,⇑q,.l to,.d y,.l os,⇑k,⇑u,⇑v,.d l] true)
  (d2:eIx (eIx (zaa 3) (zaa 8)) (zaa 2) [.d N,⇑p,⇑q,.l to,.d y,.l os,⇑k,⇑u,⇑v,.d l]=.ok (.own (.d d)) [.d N,⇑p,⇑q,.l to,.d y,.l os,⇑k,⇑u,⇑v,.d l] true)
  (su:Fs [.l [.d c,.d l,.d d]]=.ok (.d x) []) (sc:scl (.d x)=true) (fe:fEq false (.d x) (.d y)=some (.d (.bool b))) (hl:os.length < sizeLine) :
  (sIf (tst (e2 (zae [false] Fs (zac (zay coes .l (zac (eIx (eIx (zaa 3) (zaa 1)) (zaa 7)) (zac (zaa 9) (zac (eIx (eIx (zaa 3) (zaa 8)) (zaa 2)) aNil)))) aNil)) (zaa 4) (fEq false))) (za3 (eApp (zaa 5) (zaa 6))) sNil) [.d N,⇑p,⇑q,.l to,.d y,.l os,⇑k,⇑u,⇑v,.d l]=.nx [.d N,⇑p,⇑q,.l to,.d y,.l (if b then os++[⇑k] else os),⇑k,⇑u,⇑v,.d l]:=by
 have cl:=za2 (ms:=[false]) (AA:=zac (zay coes .l (zac (eIx (eIx (zaa 3) (zaa 1)) (zaa 7)) (zac (zaa 9) (zac (eIx (eIx (zaa 3) (zaa 8)) (zaa 2)) aNil)))) aNil) (ρ:=[.d N,⇑p,⇑q,.l to,.d y,.l os,⇑k,⇑u,⇑v,.d l]) (zab (zax (zab d1 (zab rfl (zab d2 rfl rfl) rfl) rfl) rfl (nlq rfl) rfl) rfl rfl) rfl su (by simp[sc])
 cases b with
 | true=>exact if_t (zaR (zau cl rfl rfl rfl rfl fe) rfl) (zaW (zdZ rfl rfl rfl rfl rfl (zbQ rfl hl)))
 | false=>exact if_f (zaR (zau cl rfl rfl rfl rfl fe) rfl) rfl
end
theorem zqe {n:Int} {rs:List Road} {ρ:Rho} (h:ρ[0]? = some (.d (netD n rs))):itE (eIx (zaa 0) ↥1) ρ=.ok (zc6 0 (rs.map zar)) ρ true:=by
 have gn:=zgM (n:=n) (rs:=rs) (ρ:=ρ) (j:=0) h;have hn:zaa 0 ρ=.ok (.at 0 []) ρ true:=by unfold zaa;rw[h]
 have hi:eIx (zaa 0) ↥1 ρ=.ok (.own (.d (zan rs))) ρ (true&&true):=za6 hn (zaD rfl rfl rfl) (by simp[pok]) gn;unfold itE;rw[hi];rfl
theorem zjd {n one other:Int} {rs:List Road} (ok:zaw n rs) (T:Taut rs) (h1:0<=one/\one < n) (h2:0<=other/\other < n) :
  zbG [.d (netD n rs),⇑one,⇑other]=.ok (zad (zaA n rs one other)) []:=by
 have n1:=ok.n1;have rl:=ok.len;have sh:=zcV n.toNat rs;have cq:=zba ok h1 h2;have tq:=zdE ok T;have rd:=fun w4 w5 w6 w7 w8 w9=>ziA (ρ:=[.d (netD n rs),⇑one,⇑other,tabO (zaq n.toNat rs),w4,w5,w6,w7,w8,w9]) (k:=3) (a:=1) (b:=2) sh rfl rfl rfl (i:=one) (j:=other) ∅ ∅
 have lent3:∀ρ:Rho,zcx [false,false,false] ρ=[]:=fun ρ=>by rcases ρ with _ | ⟨a,_ | ⟨b,_ | ⟨c,d⟩⟩⟩<;>rfl
 have fin:∀o ρ',zd3 [.d (netD n rs),⇑one,⇑other,.z,.z,.z,.z,.z,.z,.z]=.rt o ρ'->zbG [.d (netD n rs),⇑one,⇑other]=.ok o []:=fun o ρ' h=>by
  refine Eq.trans ?_ (congrArg (Rc.ok _) (lent3 ρ'));exact zfm (ms:=[false,false,false]) (n:=10) (S:=zd3) (os:=[.d (netD n rs),⇑one,⇑other]) h
 obtain ⟨c,hc⟩:∃c,cel n rs one other=c:=⟨_,rfl⟩;have hc':cell (zaq n.toNat rs) one.toNat other.toNat=c:=hc;have rd0:=rd .z .z .z .z .z .z;rw[hc'] at rd0
 cases c with
 | none=>
  have e:zaA n rs one other=[]:=if_pos hc;rw[e];unfold tabO at *;generalize netD n rs=Nd at *;generalize (zaq n.toNat rs).map rowO=Tb at *;exact fin _ _ (zag (zaW (za2 (zab rfl (zab rfl (zab rfl rfl rfl) rfl) rfl) rfl cq rfl)) (zag (zao (zas (zab rfl rfl rfl) rfl tq rfl rfl) rfl rfl) (zag (zao rd0 rfl rfl) (zd5 (if_t (zaR (zau rfl rfl rfl rfl rfl rfl) rfl) (zaS (zax rfl rfl (nlq rfl) rfl) rfl))))))
 | some s=>
  have e:zaA n rs one other=za5 n rs one other rs.length:=if_neg (by rw[hc];simp);rw[e];obtain ⟨ρ',st,z6,z7,z8,z9,rfl⟩:=zcp (G:=gtT (zah (gtN 6) (zah (gtT (zah (gtN 7) (zah (gtN 8) (zah (gtN 9) zbl)))) zbl))) (S:=zew) (items:=zc6 0 (rs.map zar)) (ρ:=[.d (netD n rs),⇑one,⇑other,tabO (zaq n.toNat rs),⇑s,zad [],.z,.z,.z,.z])
   (fun i ρ=>∃z6 z7 z8 z9,ρ=[.d (netD n rs),⇑one,⇑other,tabO (zaq n.toNat rs),⇑s,zad (za5 n rs one other i),z6,z7,z8,z9]) ⟨_,_,_,_,rfl⟩
   (fun i x ρ hx h=>by
    obtain ⟨z6,z7,z8,z9,e⟩:=h;subst e;obtain ⟨d,hd,rfl⟩:=zdf hx;rw[List.getElem?_map] at hd;obtain ⟨r,hi',rfl⟩:=Option.map_eq_some_iff.mp hd;have hi:i < rs.length:=(List.getElem?_eq_some_iff.mp hi').1;obtain ⟨r1,r2,_⟩:=ok.rd r (List.mem_of_getElem? hi');have tl:=zgJ n rs one other i;have fe:=zrE (byC (cel n rs one r.1) r.2.2 (cel n rs r.2.1 other)) (some s);have su:=zsn (cel n rs one r.1) (cel n rs r.2.1 other) r.2.2;have tb:zbo n rs one other i=decide (byC (cel n rs one r.1) r.2.2 (cel n rs r.2.1 other)=some s):=by
     unfold zbo;rw[hi',hc]
    have d1:=ziA (ρ:=[.d (netD n rs),⇑one,⇑other,tabO (zaq n.toNat rs),⇑s,zad (za5 n rs one other i),⇑((0+i:Nat):Int),⇑r.1,⇑r.2.1,⇑r.2.2]) (k:=3) (a:=1) (b:=7) sh rfl rfl rfl (i:=one) (j:=r.1) ∅ ∅;have d2:=ziA (ρ:=[.d (netD n rs),⇑one,⇑other,tabO (zaq n.toNat rs),⇑s,zad (za5 n rs one other i),⇑((0+i:Nat):Int),⇑r.1,⇑r.2.1,⇑r.2.2]) (k:=3) (a:=8) (b:=2) sh rfl rfl rfl (i:=r.2.1) (j:=other) ∅ ∅;rw[zg6] at d1 d2;have stp:=zqX d1 d2 su (zfj _) fe (zd4 (by simp;omega));refine ⟨_,_,rfl,stp,⇑((0+i:Nat):Int),⇑r.1,⇑r.2.1,⇑r.2.2, ?_⟩;rw[zik,tb];have z0:((0+i:Nat):Int)=i:=by omega
    rw[z0];unfold zad tabO;split
    .rw[zrp]
    .rfl)
  rw[zdg,List.length_map] at st;have it:=fun w1 w2 w3 w4 w5 w6 w7 w8 w9=>zqe (n:=n) (rs:=rs) (ρ:=[.d (netD n rs),w1,w2,w3,w4,w5,w6,w7,w8,w9]) rfl
  unfold tabO at *;generalize netD n rs=Nd at *;generalize (zaq n.toNat rs).map rowO=Tb at *;exact fin _ _ (zag (zaW (za2 (zab rfl (zab rfl (zab rfl rfl rfl) rfl) rfl) rfl cq rfl)) (zag (zao (zas (zab rfl rfl rfl) rfl tq rfl rfl) rfl rfl) (zag (zao rd0 rfl rfl) (zag (if_f (zaR (zau rfl rfl rfl rfl rfl rfl) rfl) rfl) (zag (zao (zax rfl rfl (nlq rfl) rfl) rfl rfl) (zag (zgp (it _ _ _ _ _ _ _ _ _) st) (zaS rfl rfl)))))))
def detE (n:Int) (rs:List Road) (one other s k:Int):List (Int×Option Int):=match cel n (F29.za7 rs k.toNat) one other with
 | none=>[(k,none)]
 | some a=>if s < a then [(k,some (a - s))] else []
def detL (n:Int) (rs:List Road) (one other:Int):List (Int×Option Int):=match cel n rs one other with
 | none=>[]
 | some s=>(zaA n rs one other).flatMap (detE n rs one other s)
def detD (x:Int×Option Int):PyData:=.tuple [.int x.1,oD x.2]
def detO (xs:List (Int×Option Int)):List O:=xs.map fun x=>.d (detD x)
theorem zmo (n:Int) (rs:List Road) (one other s k:Int):(detE n rs one other s k).length<=1:=by
 unfold detE;split
 .simp
 .split<;>simp
theorem zjm {A:EF} {ρ:Rho} {q:Bool} {o:O} {ds:List PyData} {mk:List PyData->List O} (h:A ρ=.ok (.own o) ρ q) (f:fz o=some (.list ds)):srcM false mk A ρ=.ok ((mk ds,none),true) ρ q:=by
 unfold srcM;rw[h];simp[Re.bind,zfA,cov,coe,f]
section
variable {N Tb S x:PyData} {p q k a s:Int} {to ro so os:List O} {z6:O} {Fs Ft:FC}
end
theorem zkM {n one other k:Int} {rs:List Road} (h:k∈zaA n rs one other):0<=k/\k < rs.length:=by
 unfold zaA at h;split at h
 .cases h
 .unfold za5 at h;obtain ⟨i,hi,rfl⟩:=List.mem_map.mp h
  have:=List.mem_range.mp (List.mem_filter.mp hi).1
  omega
theorem zhe (n:Int) (rs:List Road) (one other s:Int):∀ks:List Int,(ks.flatMap (detE n rs one other s)).length<=ks.length
 | []=>Nat.le_refl _
 | k::ks=>by
  have:=zhe n rs one other s ks
  have:=zmo n rs one other s k
  rw[List.flatMap_cons,List.length_append,List.length_cons];omega
theorem zmn {n one other s:Int} {rs:List Road} {ks:List Int} {i:Nat} {k:Int} (h:ks[i]? = some k):detO ((ks.take (i+1)).flatMap (detE n rs one other s))=detO ((ks.take i).flatMap (detE n rs one other s))++detO (detE n rs one other s k):=by
 unfold detO;rw[List.take_succ,h,List.flatMap_append,List.map_append];simp
theorem zgF {n one other:Int} {rs:List Road}:(zaA n rs one other).length<=rs.length:=by
 unfold zaA;split
 .simp
 .exact zgJ _ _ _ _ _
theorem zi3 {I:Rho->Re (Src×Bool)} {G:GF} {S:SF} {ρ ρ1:Rho} {items:List O} {r:Option (Nat×O)} {kd q:Bool} {R:Rt} (h:I ρ=.ok ((items,r),kd) ρ1 q) (k:forF G S items ρ1=R):zg1 I G S ρ=R:=by
 unfold zg1;rw[h];exact k
theorem zjo {n one other:Int} {rs:List Road} (h2:0<=other/\other < n) (ρ:Rho):gIx ρ (.own (fnO (eO (tC n rs one)) n.toNat)) other=some (.own (.d (oD (cel n rs one other)))):=by
 have e:(List.range n.toNat)[other.toNat]? = some other.toNat:=List.getElem?_range ∅;have z:((other.toNat:Nat):Int)=other:=by omega
 rw[zcq];unfold fnO eO;have ix:ixN n.toNat other=some other.toNat:=by unfold ixN;rw[if_pos h2.1,if_pos ∅]
 simp[els,ix,zeD,e];rw[show (max other 0:Int)=other by omega]<;>(unfold tC cel;cases cell (zaq n.toNat rs) one.toNat other.toNat<;>rfl)
section
variable {N S x:PyData} {p q k a s:Int} {so to os:List O} {y3 y z7:O} {Fs Fl:FC}
theorem zqr (es:Fs [.d N,⇑k]=.ok (.t so) []) (fs:fz (.t so)=some S) (lf:Fl [.d S,⇑p]=.ok (.l to) []) (g:∀ρ:Rho,gIx ρ (.own (.l to)) q=some (.own (.d x))) :
  (sAsg coe (eIx (zae [false,false] Fl (zac (eFz (zae [false,false] Fs (zac (zaa 0) (zac (zaa 6) aNil)))) (zac (zaa 1) aNil))) (zaa 2)) (gtN 7)) [.d N,⇑p,⇑q,y3,y,.l os,⇑k,z7]=.nx [.d N,⇑p,⇑q,y3,y,.l os,⇑k,.d x]:=
 zao (za6 (zas (zab (F29.zmF (zas (zab rfl (zab rfl rfl rfl) rfl) rfl es rfl rfl) fs) (zab rfl rfl rfl) rfl) rfl lf rfl rfl) (zaD rfl rfl rfl) rfl (g _)) rfl rfl
theorem zp8 (hl:os.length < sizeLine) {R:SF}:(sIf (tst (e2 (zaa 7) (eC .none) (fIs false))) (za3 (eApp (zaa 5) (zay coes mkT (zac (zaa 6) (zac (eC .none) aNil))))) R) [.d N,⇑p,⇑q,y3,⇑s,.l os,⇑k,.d .none]=.nx [.d N,⇑p,⇑q,y3,⇑s,.l (os++[.d (.tuple [.int k,.none])]),⇑k,.d .none]:=
 if_t (zaR (zau rfl rfl rfl rfl rfl rfl) rfl) (zaW (zdZ rfl rfl (zax (zab rfl (zab rfl rfl rfl) rfl) rfl (nlq rfl) (show mkT [⇑k,.d .none]=_ from rfl)) rfl rfl (zbQ rfl hl)))
theorem zre (hl:os.length < sizeLine) (c:s < a) {P:SF} :
  (sIf (tst (e2 (zaa 7) (eC .none) (fIs false))) P (sIf (tst (e2 (zaa 7) (zaa 4) fGt)) (za3 (eApp (zaa 5) (zay coes mkT (zac (zaa 6) (zac (e2 (zaa 7) (zaa 4) fSub) aNil))))) sNil)) [.d N,⇑p,⇑q,y3,⇑s,.l os,⇑k,⇑a]=.nx [.d N,⇑p,⇑q,y3,⇑s,.l (os++[.d (.tuple [.int k,.int (a - s)])]),⇑k,⇑a]:=by
 have gt:fGt ⇑a ⇑s=some (.d (.bool true)):=by simp[c]
 exact if_f (zaR (zau rfl rfl rfl rfl rfl rfl) rfl) (if_t (zaR (zau rfl rfl rfl rfl rfl gt) rfl) (zaW (zdZ rfl rfl (zax (zab rfl (zab (zau rfl rfl rfl rfl rfl rfl) rfl rfl) rfl) rfl (nlq rfl) (show mkT [⇑k,⇑(a - s)]=_ from rfl)) rfl rfl (zbQ rfl hl))))
theorem ztb (c:¬s < a) {P Q:SF} :
  (sIf (tst (e2 (zaa 7) (eC .none) (fIs false))) P (sIf (tst (e2 (zaa 7) (zaa 4) fGt)) Q sNil)) [.d N,⇑p,⇑q,y3,⇑s,.l os,⇑k,⇑a]=.nx [.d N,⇑p,⇑q,y3,⇑s,.l os,⇑k,⇑a]:=by
 have gt:fGt ⇑a ⇑s=some (.d (.bool false)):=by simp;omega
 exact if_f (zaR (zau rfl rfl rfl rfl rfl rfl) rfl) (if_f (zaR (zau rfl rfl rfl rfl rfl gt) rfl) rfl)
end
theorem zgO {n one other:Int} {rs:List Road} (ok:zaw n rs) (T:Taut rs) (h1:0<=one/\one < n) (h2:0<=other/\other < n) :
  zbm [.d (netD n rs),⇑one,⇑other]=.ok (.l (detO (detL n rs one other))) []:=by
 have n1:=ok.n1;have rl:=ok.len;have tl:=zgF (n:=n) (one:=one) (other:=other) (rs:=rs);have lt:=zjd ok T h1 h2;have lf:=zbW (one:=one) ⟨ok,by omega,T⟩ h1;have g0:=zjo (n:=n) (one:=one) (rs:=rs) h2;have lent3:∀ρ:Rho,zcx [false,false,false] ρ=[]:=fun ρ=>by rcases ρ with _ | ⟨a,_ | ⟨b,_ | ⟨c,d⟩⟩⟩<;>rfl
 have fin:∀o ρ',zdv [.d (netD n rs),⇑one,⇑other,.z,.z,.z,.z,.z]=.rt o ρ'->zbm [.d (netD n rs),⇑one,⇑other]=.ok o []:=fun o ρ' h=>by
  refine Eq.trans ?_ (congrArg (Rc.ok _) (lent3 ρ'));exact zfm (ms:=[false,false,false]) (n:=8) (S:=zdv) (os:=[.d (netD n rs),⇑one,⇑other]) h
 obtain ⟨ρ',st,z6,z7,rfl⟩:∃ρ',forF (gtN 6) zc3 (((zaA n rs one other).map PyData.int).map O.d) [.d (netD n rs),⇑one,⇑other,.d (zal (zaA n rs one other)),.d (oD (cel n rs one other)),.l [],.z,.z]=.nx ρ'/\∃z6 z7,ρ'=[.d (netD n rs),⇑one,⇑other,.d (zal (zaA n rs one other)),.d (oD (cel n rs one other)),.l (detO (detL n rs one other)),z6,z7]:=by
  obtain ⟨c,hc⟩:∃c,cel n rs one other=c:=⟨_,rfl⟩
  cases c with
  | none=>
   have e:zaA n rs one other=[]:=if_pos hc;have e2:detL n rs one other=[]:=by unfold detL;rw[hc]
   rw[e,e2,hc];exact ⟨_,rfl,_,_,rfl⟩
  | some s=>
   have e2:detL n rs one other=(zaA n rs one other).flatMap (detE n rs one other s):=by unfold detL;rw[hc]
   rw[hc]
   have:=zcp (G:=gtN 6) (S:=zc3) (items:=((zaA n rs one other).map PyData.int).map O.d) (ρ:=[.d (netD n rs),⇑one,⇑other,.d (zal (zaA n rs one other)),⇑s,.l [],.z,.z])
    (fun i ρ=>∃z6 z7,ρ=[.d (netD n rs),⇑one,⇑other,.d (zal (zaA n rs one other)),⇑s,.l (detO (((zaA n rs one other).take i).flatMap (detE n rs one other s))),z6,z7]) ⟨_,_,rfl⟩
    (fun i x ρ hx h=>by
     obtain ⟨z6,z7,e⟩:=h;subst e;rw[List.getElem?_map,List.getElem?_map] at hx;obtain ⟨d,hd,rfl⟩:=Option.map_eq_some_iff.mp hx;obtain ⟨k,hk,rfl⟩:=Option.map_eq_some_iff.mp hd;have kin:=zkM (List.mem_of_getElem? hk);have es:=(F29.zgr (n:=n) rl kin).1;have fs:=zjB n (F29.za7 rs k.toNat);have oks:=F29.zfP ok k.toNat;have Ts:=F29.zdL T k.toNat;have lf:=zbW (one:=one) ⟨oks,by omega,Ts⟩ h1;have g:=zjo (n:=n) (one:=one) (rs:=F29.za7 rs k.toNat) h2;have ol:(detO (((zaA n rs one other).take i).flatMap (detE n rs one other s))).length < sizeLine:=zd4 (by
      unfold detO;rw[List.length_map]
      have:=zhe n rs one other s ((zaA n rs one other).take i)
      rw[List.length_take] at this
      omega)
     unfold netO at es;unfold fnO at lf g;have b1:=fun w3 w4 w7=>zqr (os:=detO (((zaA n rs one other).take i).flatMap (detE n rs one other s))) (y3:=w3) (y:=w4) (z7:=w7) es fs lf g
     have dt:=zmn (n:=n) (rs:=rs) (one:=one) (other:=other) (s:=s) hk;obtain ⟨c,hc'⟩:∃c,cel n (F29.za7 rs k.toNat) one other=c:=⟨_,rfl⟩;rw[hc'] at b1
     cases c with
     | none=>
      have de:detE n rs one other s k=[(k,none)]:=by unfold detE;rw[hc']
      rw[dt,de];exact ⟨_,_,rfl,zag (b1 _ _ _) (zp8 ol),_,_,rfl⟩
     | some a=>
      have de:detE n rs one other s k=if s < a then [(k,some (a - s))] else []:=by unfold detE;rw[hc']
      by_cases c:s < a
      .rw[if_pos c] at de;rw[dt,de];exact ⟨_,_,rfl,zag (b1 _ _ _) (zre ol c),_,_,rfl⟩
      .rw[if_neg c] at de;rw[dt,de];refine ⟨_,_,rfl,zag (b1 _ _ _) (ztb c),⇑k,⇑a, ?_⟩;rw[show detO []=[] from rfl,List.append_nil])
   obtain ⟨ρ',st,z6,z7,e⟩:=this;rw[List.length_map,List.length_map,List.take_length,<-e2] at e;exact ⟨ρ',st,z6,z7,e⟩
 have fi:=zce (zaA n rs one other);have sr:∀w4 w5 w6 w7,srcM false (fun ds=>ds.map O.d) (zaa 3) [.d (netD n rs),⇑one,⇑other,zad (zaA n rs one other),w4,w5,w6,w7]=.ok ((((zaA n rs one other).map PyData.int).map O.d,none),true) [.d (netD n rs),⇑one,⇑other,.d (zal (zaA n rs one other)),w4,w5,w6,w7] true:=fun w4 w5 w6 w7=>by
  unfold zad zal at *;generalize (zaA n rs one other).map (fun h=>O.d (.int h))=Z at *;unfold srcM;simp[fi,cov,-List.map_map]
 unfold zad fnO at *;generalize (zaA n rs one other).map (fun h=>O.d (.int h))=Z at *;generalize (List.range n.toNat).map (fun v:Nat=>eO (tC n rs one) v)=Y at *;generalize netD n rs=Nd at *;exact fin _ _ (zag (zao (zas (zab rfl (zab rfl (zab rfl rfl rfl) rfl) rfl) rfl lt rfl rfl) rfl rfl) (zag (zao (za6 (zas (zab rfl (zab rfl rfl rfl) rfl) rfl lf rfl rfl) (zaD rfl rfl rfl) rfl (g0 _)) rfl rfl) (zag (zao (zax rfl rfl (nlq rfl) rfl) rfl rfl) (zag (zi3 (sr _ _ _ _) st) (zaS rfl rfl)))))
theorem zoa {I:Rho->Re (Src×Bool)} {js:List (Option Nat)} {G:GF} {T:TF} {A:EF} {ρ ρ1:Rho} {items os:List O} {kd q1 q2:Bool} (h:I ρ=.ok ((items,none),kd) ρ1 q1) (hl:items.length<=sizeLine) (k:lcF js G T A items ρ1 [] true=.ok os ρ1 q2):eLS I js G T A ρ=.ok (.own (.l os)) ρ1 (q1&&q2):=F24.znS h hl k rfl
theorem zk5 (xs:List (Int×Option Int)):detO xs=(xs.map detD).map O.d:=by
 unfold detO;rw[List.map_map];rfl
theorem zrO (xs:List (Int×Option Int)):fz (.l (detO xs))=some (.list (xs.map detD)):=by
 rw[zk5,zfF]
theorem zmX {n one other:Int} {rs:List Road}:(detL n rs one other).length<=rs.length:=by
 unfold detL;split
 .simp
 .exact Nat.le_trans (zhe _ _ _ _ _ _) zgF
def fstO:O->O
 | .d (.tuple (.int x::_))=>⇑x
 | o=>o
theorem zlh {n one other:Int} {rs:List Road} (ok:zaw n rs) (T:Taut rs) (h1:0<=one/\one < n) (h2:0<=other/\other < n) :
  zb3 [.d (netD n rs),⇑one,⇑other]=.ok (zad ((detL n rs one other).map Prod.fst)) []:=by
 have rl:=ok.len;have dl:=zmX (n:=n) (one:=one) (other:=other) (rs:=rs);have dt:=zgO ok T h1 h2;obtain ⟨q,e⟩:=zd8 (js:=[none,none]) (G:=gtT (zah (gtN 0) (zah (gtN 1) zbl))) (T:=gRet true) (A:=zef) (ρ:=[.d (netD n rs),⇑one,⇑other]) (fun _=>true) fstO (items:=((detL n rs one other).map detD).map O.d) (acc:=[]) (q:=true) (fun o ho=>by
  rw[List.map_map] at ho;obtain ⟨x,hx,rfl⟩:=List.mem_map.mp ho;exact ⟨[⇑x.1,.d (oD x.2)],[⇑x.1,.d (oD x.2)],true,rfl,rfl,(fun _=>⟨.at 0 [],[⇑x.1,.d (oD x.2)],true,[⇑x.1,.d (oD x.2)],rfl,rfl,rfl⟩),(fun h=>by cases h)⟩)
 have em:(((detL n rs one other).map detD).map O.d).map fstO=((detL n rs one other).map Prod.fst).map fun h=>O.d (.int h):=by
  rw[List.map_map,List.map_map,List.map_map];rfl
 rw[F29.zdd,List.nil_append,em] at e;have fd:=zrO (detL n rs one other);have lz:(((detL n rs one other).map detD).map O.d).length<=sizeLine:=zbZ (by simp;omega);unfold zad;generalize ((detL n rs one other).map Prod.fst).map (fun h=>O.d (.int h))=Z at *;generalize (detL n rs one other).map detD=D at *;generalize detO (detL n rs one other)=Y at *;generalize netD n rs=Nd at *;exact zbn rfl (zaS (zoa (zjm (mk:=fun ds=>ds.map O.d) (zas (zab rfl (zab rfl (zab rfl rfl rfl) rfl) rfl) rfl dt rfl rfl) fd) lz e) rfl) rfl
end F30
theorem zhz:∀t:Tab,PyData.canLayAll0 (t.map rowD)=true/\PyData.depthAll (t.map rowD)<=1
 | []=>by simp[PyData.canLayAll0,PyData.depthAll]
 | r::t=>by
  have h:=zhz t;have h2:=zge r;rw[List.map_cons];simp only[PyData.canLayAll0,PyData.depthAll,rowD,PyData.canLay0,PyData.depth,h2.1,h2.2,h.1];refine ⟨rfl, ?_⟩
  have:=h.2
  omega
theorem zm1 (t:Tab):fEq true (tabO t) (tabO t)=some (.d (.bool false)):=by
 have h:=zhz t;have c:(tabD t).canLay0=true:=by simp only[tabD,PyData.canLay0,h.1]
 have s:SeqAt.shaped (tabD t)=true:=by
  simp only[SeqAt.shaped,c,Bool.true_and,decide_eq_true_eq];simp only[tabD,PyData.depth]
  have:=h.2
  omega
 have e:=zdo _ c;unfold fEq;rw[zh8];simp[s,e]
end My
namespace L2
open PySem PySem.Spec PySem.Calls PySem.W PyProof.Rows
section
variable {X:Cx} {E:XK}
end
section
variable (mg:Str->Option Value) (K:PySem.W.Frag) (E:XK) (L:List Nat)
end
section
variable {X:Cx} {L:List Nat}
end
section
variable {X:Cx} {E:XK} {L:List Nat}
end
section
variable {X:Cx} {E:XK}
end
end L2
namespace L2
open PySem PySem.Spec PyProof.Rows
section
variable {X:Cx} {E:XK} {L:List Nat}
end
end L2
namespace L2
open PySem PySem.Spec PySem.Calls PyProof.Rows
def zipO:List PyData->List PyData->List O
 | a::as,b::bs=>.d (.tuple [a,b])::zipO as bs
 | _,_=>[]
theorem ziW:∀{as bs:List PyData} {i:Nat} {a b:PyData},as[i]? = some a->bs[i]? = some b->(zipO as bs)[i]? = some (.d (.tuple [a,b]))
 | [],_,_,_,_,h,_=>by simp at h
 | _::_,[],_,_,_,_,h=>by simp at h
 | x::as,y::bs,0,a,b,h,k=>by simp at h k;subst h k;rfl
 | x::as,y::bs,i+1,a,b,h,k=>by
  rw[zipO,List.getElem?_cons_succ];exact ziW (by simpa using h) (by simpa using k)
theorem zg2:∀(as bs:List PyData),(zipO as bs).length=min as.length bs.length
 | [],_=>by simp[zipO]
 | _::_,[]=>by simp[zipO]
 | x::as,y::bs=>by rw[zipO,List.length_cons,zg2 as bs,List.length_cons,List.length_cons];omega
def zz:List O->Option (List O)
 | [.d (.list as),.d (.list bs)]=>some (zipO as bs)
 | _=>none
theorem zpC {os is:List O} (h:zz os=some is):∃as bs,os=[.d (.list as),.d (.list bs)]/\is=zipO as bs:=by
 unfold zz at h;split at h
 .cases h;exact ⟨_,_,rfl,rfl⟩
 .cases h
def itZ (AA:AF):Rho->Re (List O):=fun ρ=>(AA ρ).bind fun rs ρ1 q=>match coes ρ1 rs with
 | some (os,ρ2)=>match zz os with
  | some is=>.ok is ρ2 q
  | none=>.bad
 | none=>.bad
section
variable {mg:Str->Option Value} {K:PySem.W.Frag} {E:XK}
theorem Ows.two {H:Hp} {W:Addr->Prop} {vs:List V} {as bs:List PyData} {As:List Addr} (h:Ows mg K H W vs [.d (.list as),.d (.list bs)] As):∃a b xs ys,vs=[.ref a,.ref b]/\H a=some (.lst xs)/\¬W a/\Dns H W xs as/\H b=some (.lst ys)/\¬W b/\Dns H W ys bs:=by
 cases h with
 | cons a b=>
  cases b with
  | cons b c=>
   cases c
   cases a with
   | d a=>
    cases b with
    | d b=>
     cases a with
     | lst n q t=>
      cases b with
      | lst n' q' t'=>exact ⟨_,_,_,_,rfl,q,n,t,q',n',t'⟩
end
section
variable {X:Cx} {E:XK} {L:List Nat}
theorem lc_Z {AA:AF} {A:EF} {js:List (Option Nat)} {G:GF} {T:TF} {σ:St} {H:Hp} {Q:VK} (nd:(caps js).Nodup) (h:tR X.mg X.K E (eLC (itZ AA) js G T A) σ H Q):tLC (iZ (tRs X.mg X.K E AA)) js (tTg X.mg X.K (capL js) G) (tT X.mg X.K E0' T) (tR X.mg X.K E0' A) σ H Q:=by
 obtain ⟨W,ρ,f,ok,q⟩:=h;refine zos (X:=X) zeX ok ?_;unfold eLC itZ at q
 cases ea:AA ρ with
 | bad=>rw[ea] at q;exact q
 | ex c ρ'=>rw[ea] at q;exact q
 | ok rs ρ1 q1=>
  rw[ea] at q;dsimp only[Re.bind] at q ⊢
  cases ec:coes ρ1 rs with
  | none=>rw[ec] at q;exact False.elim q
  | some z=>
   obtain ⟨os,ρ2⟩:=z;rw[ec] at q;dsimp only at q ⊢;intro vs H' W' f' As s ow nd' ap m k
   cases ez:zz os with
   | none=>rw[ez] at q;exact False.elim q
   | some is=>
    rw[ez] at q;dsimp only at q;obtain ⟨as,bs,rfl,rfl⟩:=zpC ez
    by_cases hz:(zipO as bs).length<=sizeLine
    .rw[if_pos hz] at q
     cases b:lcF js G T A (zipO as bs) ρ2 [] true with
     | bad=>rw[b] at q;exact False.elim q
     | ex c ρ'=>rw[b] at q;exact False.elim q
     | ok os' ρ3 q3=>
      rw[b] at q;obtain ⟨a,b',xs,ys,rfl,ha,na,da,hb,nb,db⟩:=Ows.two ow;have m':Mv (Inn f) H W (Inn f') H' W':=m.narrow fun x z=>.inl z
      refine ⟨a,b',xs,ys,rfl,ha,hb,ziJ (items:=zipO as bs) (.next s m' fun _ z=>z) nd (fun k i=>zfM) hz (fun i H2 W2 ⟨_,mm⟩ hi=>?_) (fun H2 W2 ⟨_,mm⟩=>?_) (fun i H2 W2 x H3 ⟨_,mm⟩ dd hi y=>?_) b (znJ ok m' k q)⟩
      .rw[zg2,<-da.length,<-db.length] at hi;have h1:i < xs.length:=by omega
       have h2:i < ys.length:=by omega
       exact ⟨xs,xs[i],ys,ys[i],(mm.d a _ ha na).1,by simp[h1],(mm.d b' _ hb nb).1,by simp[h2]⟩
      .exact ⟨xs,ys,(mm.d a _ ha na).1,(mm.d b' _ hb nb).1,by rw[zg2,da.length,db.length];omega⟩
      .obtain ⟨t,z,w,rfl,ht,rfl,y1,y2⟩:=y;obtain ⟨d,e1,e2⟩:=da.getV (y1 xs (mm.d a _ ha na).1);obtain ⟨d',e1',e2'⟩:=db.getV (y2 ys (mm.d b' _ hb nb).1);have g:Gr H2 W2 [] (upd H2 t (.tup [z,w])) W2:=.new ht;exact ⟨g,_,ziW e1 e1',.d (.tup (fun w=>dd t w ht) zbx (.cons ((e2.on mm.d).on g.d) (.cons ((e2'.on mm.d).on g.d) .nil)))⟩
    .rw[if_neg hz] at q;exact False.elim q
section
variable {elt:Expr} {ifs:List Expr} {scope:Scope} {pos:Pos} {N':List Str} {js:List (Option Nat)} {G:GF} {T:TF} {A:EF} {AA:AF}
theorem zqS {elts:List Expr} {kk:Nat} {tp p cpos:Pos} {a b:Expr} (hi:VA X E [a,b] AA) (hgl:Gl X "zip") (hm:X.mg "zip"=none) (hc:X.calm=true) (hcap:zh0 X.N X.env.scope N' scope js=true) (hf:zeM X.env.scope scope=true) (hkind:scope.kind=.function) (nd:(caps js).Nodup)
  (hb:Blk X N' scope js (.Tuple elts kk tp) ifs elt G T A) (hst:starEach [a,b] X.env=(false,eval a X.env)::starEach [b] X.env:=by rfl) (hpl:(backTo cpos (starEach [b] X.env)).any (·.1)=false:=by rfl)
  (hs:∀x,foldedSetIterable (.Call (.Name "zip" p) [a,b] [] cpos) X.env x=pure x:=by intro _;rfl):VR X E (.ListComp elt [⟨.Tuple elts kk tp,.Call (.Name "zip" p) [a,b] [] cpos,ifs,0⟩] scope pos) (eLC (itZ AA) js G T A):=
 (zoJ hc (zrl hgl hm hi hst hpl) hcap zhY hf hkind hb hs).imp fun σ H Q h=>lc_Z nd h
end
end
end L2
namespace L2
open PySem PyProof.Rows
theorem zo1:typeLookup (.type "list") (Str.ofString "__iter__")=pure (some (.builtin "list.__iter__")):=by kernel_rfl
theorem zhB {prog:Program} {w:World} {A:Around} {E:Value->Shared->Prop} {it l:Addr} {items:Array Value} (hne:l≠it):∀(n i:Nat) (s:Shared) (Q:List Value->Shared->Prop),s.heap.IsListIter it l i->s.heap.IsList l items->i+n<=items.size->
  (∀h',Heap.IsListIter h' it l (i+n)->Heap.SameBut it s.heap h'->Q ((items.toList.drop i).take n) { s with heap:=h' })->wpAny (model prog w) A (draw (.ref it) n) Q E s
 | 0,i,s,Q,h1,h2,hl,k=>by
  rw[draw.eq_1];exact wpAny_pure (k s.heap h1 ⟨rfl,fun _ _=>rfl⟩)
 | n+1,i,s,Q,h1,h2,hl,k=>by
  have hi:items[i]? = some items[i]:=Array.getElem?_eq_getElem ∅;rw[draw.eq_2];refine wpAny_bind (wpAny_pyNext_list_item h1 h2 hi fun h' i1 sb=>?_);dsimp only;have h2':Heap.IsList h' l items:=by
   obtain ⟨o,e,r⟩:=h2;exact ⟨o,(sb.2 l hne).trans e,r⟩
  refine wpAny_bind (wpAny_holding (zhB hne n (i+1) { s with heap:=h' } _ i1 h2' ∅ fun h'' i2 sb2=>?_));refine wpAny_pure ?_;have e:(items.toList.drop i).take (n+1)=items[i]::(items.toList.drop (i+1)).take n:=by
   rw[List.drop_eq_getElem_cons (by simpa using (by omega:i < items.size)),List.take_succ_cons];simp
  rw[<-e];exact k h'' (by rw[show i+(n+1)=i+1+n by omega];exact i2) ⟨sb2.1.trans sb.1,fun b hb=>(sb2.2 b hb).trans (sb.2 b hb)⟩
theorem zfK {prog:Program} {w:World} {A:Around} {E:Value->Shared->Prop} {s:Shared} {l:Addr} {items:Array Value} {Q:List Value->Shared->Prop} (hA:A.handled=none) (h:s.heap.IsList l items)
  (k:∀h',Heap.ExtBut s.heap.objs.size s.heap h'->Q items.toList { s with heap:=h' }):wpAny (model prog w) A (unpackItems (.ref l) items.size none) Q E s:=by
 have hT:s.TypeIs (.ref l) "list":=by
  obtain ⟨o,e,c,_⟩:=h;exact ⟨o,e,c⟩
 unfold unpackItems notIterableAtAll;refine wpAny_bind (wpAny_bind (wpAny_specialOf hT zo1 ?_));simp only[Option.isSome_some,if_true];refine wpAny_pure ?_;simp only[Bool.false_eq_true,if_false];refine wpAny_bind (wpAny_holding (wpAny_pyIter_list h ?_));have hl:l < s.heap.objs.size:=by
  obtain ⟨o,e,_⟩:=h;exact Heap.lt_size e
 have i0:Heap.IsListIter (s.heap.push { cls:=.type "list_iterator",data:=.fields #[.ref l,.int 0 0] }) s.heap.objs.size l 0:=⟨_,Heap.get?_push_size _ rfl,rfl,rfl⟩;have h0:Heap.IsList (s.heap.push { cls:=.type "list_iterator",data:=.fields #[.ref l,.int 0 0] }) l items:=by
  obtain ⟨o,e,r⟩:=h;exact ⟨o,Heap.get?_push_of_some _ e,r⟩
 refine wpAny_bind (wpAny_holding (zhB (Nat.ne_of_lt hl) items.size 0 _ _ i0 h0 ∅ fun h1 i1 sb=>?_));simp only[List.drop_zero];rw[List.take_of_length_le (by simp)];rw[if_neg (by simp)];have h1':Heap.IsList h1 l items:=by
  obtain ⟨o,e,r⟩:=h0;exact ⟨o,(sb.2 l (Nat.ne_of_lt hl)).trans e,r⟩
 refine wpAny_bind (wpAny_holding (wpAny_pyNext_list_end hA i1 h1' (by simp) fun h2 eb=>?_));simp only[Option.isSome_none,Bool.false_eq_true,if_false];refine wpAny_pure (k h2 fun b o hb e=>eb b o hb ((sb.2 b hb).trans (Heap.get?_push_of_some _ e)))
theorem zfn {prog:Program} {w:World} {A:Around} {E:Value->Shared->Prop} {s:Shared} {env:Env} {elts:List Expr} {k:Nat} {pos:Pos} {l:Addr} {items:Array Value} {Q:Unit->Shared->Prop} (hA:A.handled=none) (h:s.heap.IsList l items)
  (hn:(assignEach elts env).length=items.size) (hst:(assignEach elts env).findIdx? (·.1)=none)
  (kk:∀h',Heap.ExtBut s.heap.objs.size s.heap h'->wpAny (model prog w) A (assignInOrder ((assignEach elts env).map (·.2)) items.toList) Q E { s with heap:=h' }):wpAny (model prog w) A (assign (.Tuple elts k pos) env (.ref l)) Q E s:=by
 rw[arm_assign_Tuple];refine wpAny_bind (wpAny_standAt ?_);unfold unpack;rw[hst,hn];exact wpAny_bind (wpAny_holding (zfK hA h fun h' hx=>kk h' hx))
section
variable {X:Cx}
def ztO (K:PySem.W.Frag) (n:Nat) (t:TGs):TG:=fun v σ H Q=>∃a xs,v=.ref a/\SqL K H a xs/\xs.length=n/\t xs σ H Q
theorem zom {es:List Expr} {k:Nat} {t:TGs} {n:Nat} {pos:Pos} (hc:X.calm=true) (h:PGs X es t)
  (hn:(assignEach es X.env).length=n:=by rfl) (hst:(assignEach es X.env).findIdx? (·.1)=none:=by rfl):PG X (.Tuple es k pos) (ztO X.K n t):=by
 intro pins s σ H v u Q I r hw;obtain ⟨a,xs,e1,hq,hl,hw⟩:=hw;subst e1;cases r;obtain ⟨its,rv,ht,hz⟩:=I.list hq;refine zfn (I.ok.hd hc) ht.isList (by simp[hn,<-hl,rv.length]) hst fun h' hx=>?_
 have I1:Inv X pins σ H { s with heap:=h' }:=I.kept (t':=s.toks) fun b o e=>hx b o (Nat.ne_of_lt (Heap.lt_size e)) e
 exact h pins _ σ H xs _ Q I1 (by simpa using rv) hw
def gtL (R:List O->Rho->Option Rho):GF:=fun o ρ=>match els o with
 | some (true,os)=>R os ρ
 | _=>none
theorem zoq {es:List Expr} {k:Nat} {R:List O->Rho->Option Rho} {pos:Pos} {L:List Nat} (hc:X.calm=true) (h:VGs X L es R) (n:Nat) (hR:∀os ρ ρ',R os ρ=some ρ'->os.length=n)
  (hn:(assignEach es X.env).length=n:=by rfl) (hst:(assignEach es X.env).findIdx? (·.1)=none:=by rfl):VG X L (.Tuple es k pos) (gtL R):=fun pins s σ H v u Q I r hx__=>by
 obtain ⟨W,ρ,f,o,B,ρ',sl,ow,nd,ap,sb,dm,e,q⟩:=hx__;refine zom hc h hn hst pins s σ H v u Q I r ?_;unfold gtL at e
 cases z:els o with
 | none=>rw[z] at e;cases e
 | some y=>
  obtain ⟨b,os⟩:=y;rw[z] at e
  cases b with
  | false=>cases e
  | true=>
   obtain ⟨a,vs,A,rfl,h2,h3,h4⟩:=ow.els z;exact ⟨a,vs,rfl,SqL.of h2,by rw[h3.length];exact hR os ρ ρ' e,W,ρ,f,os,A,ρ',sl,h3,nd.sublist h4,fun x hx=>ap x (h4.subset hx),fun x hx=>sb x (hx.imp id (fun z=>h4.subset z)),dm,e,fun σ' f' s' i' l'=>q σ' f' s' (fun x hx=>(i' x hx).imp id (fun z=>h4.subset z)) l'⟩
def eFzN (A:EF):EF:=fun ρ=>match A ρ with
 | .bad=>.bad
 | .ex c ρ'=>.ex c ρ'
 | .ok r ρ' _=>match coe ρ' r with
  | some (o,ρ2)=>.ok (.own o) ρ2 false
  | none=>.bad
theorem zqt {E:XK} {e:Expr} {A:EF} (h:VR X E e A):VR X E e (eFzN A):=h.imp fun σ H Q hx__=>by
 obtain ⟨W,ρ,f,ok,q⟩:=hx__;refine zhx za0 ok ?_;unfold eFzN at q
 cases a:A ρ with
 | bad=>rw[a] at q;exact q
 | ex c ρ'=>rw[a] at q;exact q
 | ok r ρ' k=>
  rw[a] at q;dsimp only at q ⊢
  cases b:coe ρ' r with
  | none=>rw[b] at q;exact q
  | some z=>obtain ⟨o,ρ''⟩:=z;rw[b] at q;exact fun v H' W' f' As s ow nd ap m=>q v H' W' f' As s ⟨ow,nd⟩ ap m (fun z=>nomatch z)
end
end L2
noncomputable section
namespace My
open PySem L2
def zcG:EF:=(eIx (eIx (zaa 2) (zaa 0)) (zaa 1))
def zec:SF:=(sRet coe (zae [false] zbc (zac (eLC (itZ (zac (zaa 1) (zac (eFz (eSl (zaa 1) (zgw ↥1) oNo)) aNil))) [none,none,some 0] (gtT (zah (gtN 0) (zah (gtN 1) zbl))) (gRet true) zcG) aNil)))
def zbV:FC:=runF [false,false] 2 zec
def zdn:SF:=(za3 (zae [false,false] zbe (zac (zaa 0) (zac (zaa 2) aNil))))
def zfI:SF:=(sSeq (za3 (zae [false] zbf (zac (zaa 0) aNil)))
  (sSeq (zg1 (srcM false (fun ds=>ds.map O.d) (zaa 1)) (gtN 2) zdn)
  (sSeq (sIf (gNot (zdM ↥1 (eB (zac (zaa 1) aNil) (f1 fLen)) ↥(7) (fun i j=>decide (i<=j)) (fun i j=>decide (i<=j)))) sBad sNil)
  (sRet mov (zae [false] zaz (zac (zaa 0) aNil))))))
def zc2:FC:=runF [false,false] 3 zfI
def zgA:SF:=(sRet coe (zae [false,false] zbV (zac (eFz (zae [false,false] zc2 (zac (zaa 0) (zac (zaa 1) aNil)))) (zac (zaa 1) aNil))))
def zbS:FC:=runF [false,false] 2 zgA
def zfE:SF:=(sSeq (za3 (zae [false,false,false] zap (zac (zaa 0) (zac (zaa 1) (zac (zaa 2) aNil)))))
  (sSeq (sIf (gNot (eSc trV (zae [false,false,false,false] zcW (zac (zaa 0) (zac (zaa 1) (zac (zaa 2) (zac (zaa 3) aNil))))))) sBad sNil)
  (sRet mov (zae [false,false] za8 (zac (zaa 0) (zac (zaa 3) aNil))))))
def zco:FC:=runF [false,false,false,false] 4 zfE
end My
end
namespace My
open PySem L2
namespace F43
section
variable {c d:Int} {a b:List Road} {r:Road} {p q L:Int}
end
theorem zrN {n:Int} {rs:List Road} {ρ:Rho} {j:Nat} (h:ρ[j]? = some (.d (netD n rs))):gIx ρ (.at j []) 0=some (.own ⇑n):=by
 rw[zdS,h];exact rfl
theorem ziS:PyData.strOk (Str.ofString "fall")=true:=by decide +kernel
theorem zmp:PyData.strOk (Str.ofString "free")=true:=by decide +kernel
theorem zmR {s:Str} (h:PyData.strOk s=true):fEq false (.d (.str s)) (.d (.str s))=some (.d (.bool true)):=by
 have:=znv h
 unfold fEq at this ⊢;simp only[fz_d] at this ⊢
 revert this
 cases SeqAt.shaped (.str s)<;>cases PyData.eqv (.str s) (.str s)<;>simp
theorem zoz {a b:List PyData} (h:a.length+b.length<=1000):fAdd (.d (.list a)) (.l (b.map O.d))=some (.l ((a++b).map O.d)):=by
 have hz:a.length+b.length<=sizeLine:=zbZ ∅;simp only[fAdd,els,zeE];rw[if_pos hz]
section
variable {N M W Ld T T1 T2:PyData} {c d e:Int} {os xs x1 x2 xx ro ro2 tw fo1 fo2 fo:List O} {la l4 l5 ds d1 d2:List PyData} {q4 q5:Bool} {t4 t5:List O}
end
end F43
end My
namespace L2
open PySem
section
variable {A B C:EF} {AA:AF} {ρ ρ1 ρ2 ρ3 ρ4:Rho} {r ra rb:Rv} {rs:List Rv} {q q1 q2 q3:Bool} {o x y z:O} {os outs:List O} {is:List Nat} {ms:List Bool} {F:FC} {S T U:SF} {V W:TF} {b c:Bool} {e:Str}
theorem zc8 {x:PyData} (h:A ρ=.ok (.own o) ρ1 q) (f:fz o=some x):eFz A ρ=.ok (.own (.d x)) ρ1 q:=by unfold eFz;rw[h];dsimp only;rw[f]
theorem zne {L' U':Rho->Re (Option Int)} {l u:Option Int} (h:A ρ=.ok ra ρ1 q1) (hl:L' ρ1=.ok l ρ2 q2) (hu:U' ρ2=.ok u ρ3 q3) (p:pok ρ1 (q2&&(q3&&true)) ra=true) (hv:vn ρ3 ra=some o) (hf:fSl o l u=some z) :
  eSl A L' U' ρ=.ok (.own z) ρ3 (q1&&(q2&&(q3&&true))):=by
 unfold eSl;rw[h];dsimp only[Re.bind];rw[zcg hl (zcg hu rfl)];dsimp only;rw[if_pos p,hv];dsimp only;rw[hf]
theorem zqC {i:Int} (h:eSc decI A ρ=.ok i ρ1 q):zgw A ρ=.ok (some i) ρ1 (q&&true):=zcg h rfl
end
end L2
namespace My
open PySem L2
namespace F43
theorem zjp {A B C:EF} {p q:Int->Int->Bool} {ρ ρ1 ρ2 ρ3:Rho} {a b c:Int} {q1 q2 q3:Bool} (h:eSc decI A ρ=.ok a ρ1 q1) (k:eSc decI B ρ1=.ok b ρ2 q2) (hp:p a b=true) (l:eSc decI C ρ2=.ok c ρ3 q3) (hq:q b c=true):zdM A B C p q ρ=.ok true ρ3 (q1&&(q2&&(q3&&true))):=by
 unfold zdM;refine zcg h (zcg k ?_);rw[if_pos hp];refine zcg l ?_;rw[hq];rfl
theorem zfw {n p q:Int} {rs:List Road} {W:List Int} (ok:zaw n rs) (hp:0<=p/\p < n) (hq:0<=q/\q < n) (ld:zaZ rs p q W=true) (hl:W.length<=1000):zco [.d (netD n rs),⇑p,⇑q,.d (zal W)]=.ok ⇑(zaI rs W) []:=by
 have c:=zba ok hp hq;have l:=ziY (n:=n) ld;have w:=zdR (n:=n) hl (zem ld);generalize netD n rs=N at *;generalize zal W=I at *;exact zbn rfl (L2.zag (zaW (za2 (zab rfl (zab rfl (zab rfl rfl rfl) rfl) rfl) rfl c rfl)) (L2.zag (if_f (zk8 (zaD (za2 (zab rfl (zab rfl (zab rfl (zab rfl rfl rfl) rfl) rfl) rfl) rfl l rfl) rfl rfl)) rfl) (zaS (za2 (zab rfl (zab rfl rfl rfl) rfl) rfl w rfl) rfl))) rfl
theorem zhK {n:Int} {rs:List Road} {S:List Int} (ok:zaw n rs) (T:Taut rs) (hS:∀s∈S,0<=s/\s < n) (h1:1<=S.length) (h7:S.length<=7):zc2 [.d (netD n rs),.d (zal S)]=.ok (tabO (zaq n.toNat rs)) []:=by
 have c:=zdm ok;have t:=zdE ok T;obtain ⟨ρ',st,z,rfl⟩:=zcp (G:=gtN 2) (S:=zdn) (items:=(S.map PyData.int).map O.d) (ρ:=[.d (netD n rs),.d (zal S),.z]) (fun i ρ=>∃z,ρ=[.d (netD n rs),.d (zal S),z]) ⟨_,rfl⟩ (fun i x ρ hx hx__=>by
  obtain ⟨z,e⟩:=hx__;subst e;rw[List.getElem?_map,List.getElem?_map] at hx;obtain ⟨y,hy,rfl⟩:=Option.map_eq_some_iff.mp hx;obtain ⟨s,hs,rfl⟩:=Option.map_eq_some_iff.mp hy;obtain ⟨a,b⟩:=hS s (List.mem_of_getElem? hs);have cp:=zdt (rs:=rs) a b;generalize netD n rs=N at *;exact ⟨_,_,rfl,zaW (za2 (zab rfl (zab rfl rfl rfl) rfl) rfl cp rfl),_,rfl⟩)
 have lds_:lds ((S.map PyData.int).map O.d)=some (S.map PyData.int):=zeE _;have sr:srcM false (fun ds=>ds.map O.d) (zaa 1) [.d (netD n rs),.d (zal S),.z]=.ok (((S.map PyData.int).map O.d,none),true) [.d (netD n rs),.d (zal S),.z] true:=by
  unfold zal;simp[els,cov,lds_]
 have ln:eB (zac (zaa 1) aNil) (f1 fLen) [.d (netD n rs),.d (zal S),z]=.ok (.own ⇑(S.length:Int)) [.d (netD n rs),.d (zal S),z] true:=by
  unfold zal;simp[f1,fLen,els,vns,vn,vw,sub,pok]
 have ch:=zjp (p:=fun i j=>decide (i<=j)) (q:=fun i j=>decide (i<=j)) (A:=↥1) (C:=↥7) (ρ:=[.d (netD n rs),.d (zal S),z]) (zaD rfl rfl rfl) (zaD ln rfl rfl) (decide_eq_true ∅) (zaD rfl rfl rfl) (decide_eq_true ∅);unfold tabO at *;generalize netD n rs=N at *;generalize zal S=I at *;exact zbn rfl (L2.zag (zaW (za2 (zab rfl rfl rfl) rfl c rfl)) (L2.zag (F30.zi3 sr st) (L2.zag (if_f (zk8 ch) rfl) (zaS (zas (zab rfl rfl rfl) rfl t rfl rfl) rfl)))) rfl
section
variable {N M R W x y:PyData} {c d a0 b0 e0 f0 L k:Int} {P0 P1 P2 P3 os xs ys ws t1 r1 t2 r2 po:List O} {la:List PyData} {fo t0 l0:O} {q1 q2:Bool} {s:Str} {Rs:Rt}
end
section
variable {N M W x y Wd:PyData} {c d a0 b0 e0 f0 L k A B:Int} {P3 ws:List O} {w15 w14 t0:O} {q:Bool} {ks:List Int}
end
open F30 (cel detL zaA za5 zbo detE)
end F43
end My
noncomputable section
namespace My
open PySem L2
end My
end
namespace My
open PySem L2
namespace F32
open F30 (cel detL zaA za5 zbo detE)
open F29 (za7)
def IsO (S:Int->Prop):Option Int->Prop
 | none=>∀L,¬S L
 | some d=>S d/\∀L,S L->d<=L
theorem IsO.eq {S S':Int->Prop} {a b:Option Int} (h:IsO S a) (g:IsO S' b) (h1:∀L,S L->∃M,M<=L/\S' M) (h2:∀L,S' L->∃M,M<=L/\S M):a=b:=by
 cases a with
 | none=>
  cases b with
  | none=>rfl
  | some e=>obtain ⟨M,_,z⟩:=h2 e g.1;exact absurd z (h M)
 | some d=>
  cases b with
  | none=>obtain ⟨M,_,z⟩:=h1 d h.1;exact absurd z (g M)
  | some e=>
   obtain ⟨M,l,z⟩:=h1 d h.1;obtain ⟨N,l',z'⟩:=h2 e g.1
   have:=g.2 M z
   have:=h.2 N z'
   exact congrArg some ∅
theorem zdB {n p q:Int} {rs:List Road} (ok:zaw n rs) (T:Taut rs) (hp:0<=p/\p < n) (hq:0<=q/\q < n):IsO (Wk rs p q) (cel n rs p q):=by
 cases h:cel n rs p q with
 | none=>exact (zeH ok T hp hq).mp h
 | some d=>exact (zeG ok T hp hq).mp h
theorem IsO.add {S:Int->Prop} {a:Option Int} (h:IsO S a) (l:Int):IsO (fun L=>∃A,S A/\L=A+l) (a.map (·+l)):=by
 cases a with
 | none=>
  rintro L ⟨A,u,e⟩
  exact h A u
 | some d=>
  refine ⟨⟨d,h.1,rfl⟩, ?_⟩
  rintro L ⟨A,u,rfl⟩
  have:=h.2 A u
  show d+l<=A+l
  omega
def lO (a b:Option Int):Option Int:=match a,b with
 | none,b=>b
 | some d,none=>some d
 | some d,some e=>if e < d then some e else some d
theorem IsO.or {S S':Int->Prop} {a b:Option Int} (h:IsO S a) (g:IsO S' b):IsO (fun L=>S L\/S' L) (lO a b):=by
 cases a with
 | none=>
  cases b with
  | none=>exact fun L z=>z.elim (h L) (g L)
  | some e=>exact ⟨.inr g.1,fun L z=>z.elim (fun z=>absurd z (h L)) (g.2 L)⟩
 | some d=>
  cases b with
  | none=>exact ⟨.inl h.1,fun L z=>z.elim (h.2 L) (fun z=>absurd z (g L))⟩
  | some e=>
   show IsO _ (if e < d then some e else some d)
   split
   .refine ⟨.inr g.1,fun L z=>z.elim (fun z=>?_) (g.2 L)⟩
    have:=h.2 L z
    omega
   .refine ⟨.inl h.1,fun L z=>z.elim (h.2 L) fun z=>?_⟩
    have:=g.2 L z
    omega
def onO (n:Int) (rs:List Road) (p q:Int) (r:Road):Option Int:=byC (cel n rs p r.1) r.2.2 (cel n rs r.2.1 q)
theorem zcA (f:Road->Road) (rs:List Road) (k:Nat):za7 (rs.map f) k=(za7 rs k).map f:=by
 unfold F29.za7;rw[List.map_append,List.map_take,List.map_drop]
section
variable {n p q:Int} {rs:List Road} {m:Int->Int}
end
section
variable {n k b:Int} {rs:List Road} {r:Road}
end
section
variable {n k b p q:Int} {rs:List Road} {r:Road}
end
end F32
namespace F32
open F30 (cel detL zaA za5 zbo detE)
open F29 (za7 up)
theorem zo9 {rs:List Road} {k j:Int} (hk:0<=k/\k < (rs.length:Int)) (hj:0<=j):zaK (za7 rs k.toNat) j=zaK rs (up k j):=by
 have l:(za7 rs k.toNat).length=rs.length - 1:=by
  unfold F29.za7;simp only[List.length_append,List.length_take,List.length_drop];omega
 unfold zaK;rw[l];unfold F29.up F29.za7
 by_cases h:j < k
 .rw[if_pos h,if_pos ∅,if_pos ∅,List.getElem?_append_left (by rw[List.length_take];omega),List.getElem?_take_of_lt ∅]
 .rw[if_neg h]
  by_cases z:j+1 < rs.length
  .rw[if_pos ∅,if_pos ∅,List.getElem?_append_right (by rw[List.length_take];omega),List.getElem?_drop,List.length_take]
   congr 1
   omega
  .rw[if_neg ∅,if_neg ∅]
theorem ups {rs:List Road} {k:Int} (hk:0<=k/\k < (rs.length:Int)) {W:List Int} (h:zj2 (za7 rs k.toNat) W):zj2 rs (W.map (up k))/\zaI rs (W.map (up k))=zaI (za7 rs k.toNat) W:=by
 refine ⟨fun j hj=>?_, ?_⟩
 .obtain ⟨i,hi,rfl⟩:=List.mem_map.mp hj;obtain ⟨h0,h1⟩:=h i hi;obtain ⟨r,hr,_⟩:=zeL h0 h1;rw[zo9 hk h0] at hr;obtain ⟨a,b,_⟩:=za9 hr;exact ⟨a,b⟩
 .unfold zaI;rw[List.map_map]
  congr 1
  apply List.map_congr_left;intro j hj;unfold zgc;rw[Function.comp,zo9 hk (h j hj).1]
section
variable {N:PyData}
end
theorem zg0 {ds:List PyData} {a:Int} (h0:0<=a) (h1:a<=ds.length):fSl (.d (.list ds)) (some a) none=some (.l ((ds.drop a.toNat).map O.d)):=zlx h0 h1
section
variable {m on off:Option Int}
end
section
variable {N D1 D2 D3 D4:PyData} {p q k s g l:Int} {m on off c1 c2 hm:Option Int} {o1s:List O} {o2 o3 o4 x:O} {R:PyData} {ts ns fs:List O} {u v:Bool} {Rt':Rt}
end
section
variable {N:PyData} {p q k s g l v:Int} {m on off c1 c2:Option Int} {x t0:O} {f2 f3:List O}
end
section
variable {n p q k:Int} {rs:List Road} {r:Road}
theorem zb4 {d:Int} (ok:zaw n rs) (T:Taut rs) (hp:0<=p/\p < n) (hq:0<=q/\q < n) (h:Dist rs p q d):cel n rs p q=some d:=(zeG ok T hp hq).mpr h
theorem zcJ (ok:zaw n rs) (T:Taut rs) (hp:0<=p/\p < n) (hq:0<=q/\q < n) (h:∀M,¬Wk rs p q M):cel n rs p q=none:=(zeH ok T hp hq).mpr h
theorem zl3 (a:Str) (W hs:List Int):fz (.t [.d (.str a),zad W,zad hs])=some (.tuple [.str a,zal W,zal hs]):=by
 have f1:=zce W;have f2:=zce hs;simp[fz,fzs,f1,f2,zal]
theorem zmg:fEq false (.d (.str "fall")) (.d (.str "fall"))=some (.d (.bool true)):=F43.zmR F43.ziS
theorem zkL:fEq false (.d (.str "free")) (.d (.str "fall"))=some (.d (.bool false)):=zkS F43.zmp F43.ziS false (by decide +kernel)
end
end F32
namespace F32
open F30 (cel detL zaA za5 zbo detE detD detO)
open F29 (za7 up)
section
variable {N LD GD DD D2:PyData} {n p q c z:Int} {P0 P1 P2 hs ro go det due ts ns ld gd ad:List O} {la:List PyData} {u11 u12:O} {q1 q2 q3:Bool}
end
section
variable {ns:List Int} {N P:PyData} {cell a b k h:Int} {w2 w3 z9:O} {ps ts us:List O} {x y:Bool}
end
section
variable {ns:List Int} {N P:PyData} {cell a b k lv:Int} {z7 z8 z9:O} {P0 P1 ps ts us ts' us':List O} {x y:Bool} {bp len:Int} {la:List PyData}
end
end F32
end My
namespace L2
open PySem PySem.Spec PySem.Calls PySem.W PyProof.Rows
def ItV (a:Addr) (n:Nat):It:=
 ⟨fun i H=>∃xs x,H a=some (.lst xs)/\xs.length=n/\xs.reverse[i]? = some x,fun i H x H'=>H'=H/\∀xs,H a=some (.lst xs)->xs.length=n->xs.reverse[i]? = some x,fun i H=>i=n⟩
theorem zr9 {P:Program} {w:World} {K:PySem.W.Frag} {tg:Expr} (a it:Addr) (n:Nat):Turn P w K tg (ItV a n) [it] it (fun i h=>h.IsRevIter it a ((n:Int) - 1 - i)) where
 mem:=by simp
 obj:=fun i h st b hb=>by
  have e:b=it:=by simpa using hb
  subst e;obtain ⟨o,e,c,d⟩:=st;exact ⟨o,e,fun v z=>by rw[d] at z;cases z⟩
 keep:=fun i h h' st k=>st.at fun o e=>k it (by simp) o e
 item:=by
  intro X hP hw hK hc i pins s σ H E I hf st hg;subst hP hw hK;obtain ⟨xs,x,hq,hn,hx⟩:=hg;obtain ⟨its,rv,p,hz⟩:=I.list (SqL.of hq);have hi:i < xs.length:=by
   have:=(List.getElem?_eq_some_iff.mp hx).1
   rwa [List.length_reverse] at this
  have hx':xs[n - 1 - i]? = some x:=by
   rw[List.getElem?_reverse hi,hn] at hx;exact hx
  obtain ⟨u,hu,ru⟩:=rv.get hx';obtain ⟨f0,f1,f2,f3,f4,f5⟩:=hf it (by simp);have ec:(n:Int) - 1 - i=((n - 1 - i:Nat):Int):=by omega
  rw[ec] at st;refine wpAny_pyNext_rev_item st p.isList (x:=u) (by simpa using hu) fun h' st' sb=>?_
  have I1:Inv X pins σ H { s with heap:=h' }:=I.turned (t':=s.toks) (fun b o hb e=>(sb.2 b hb).trans e) f0 f1 f3 f4 f5;rw[show ((n - 1 - i:Nat):Int) - 1=(n:Int) - 1 - ((i+1:Nat):Int) by omega] at st';obtain ⟨o,e,c,d⟩:=id st';exact ⟨u,rfl,zml (s:={ s with heap:=h' }) e c d (by decide) ⟨x,H,I1,ru,⟨rfl,fun ys hy _=>by rw[hq] at hy;cases hy;exact hx⟩,st',fun b hb=>(hf b hb).1⟩⟩
 done:=by
  intro X hP hw hK hc i pins s σ H E I hf st hg;subst hP hw hK;have hg:i=n:=hg;subst hg;obtain ⟨f0,f1,f2,f3,f4,f5⟩:=hf it (by simp);rw[show (i:Int) - 1 - i=-1 by omega] at st;exact wpAny_pyNext_rev_end (I.ok.hd hc) st fun h' eb=>⟨rfl,I.turned (t':=s.toks) (fun b o hb e=>eb b o hb e) f0 f1 f3 f4 f5⟩
 self:=fun _ _ _ _ _ st h=>wpAny_pyIter_revIter st h
def iV (ta:TA):TI:=fun σ H R=>ta σ H fun vs H1=>∃l xs,vs=[.ref l]/\H1 l=some (.lst xs)/\R (ItV l xs.length) H1
theorem pi_V {X:Cx} {tg a:Expr} {ta:TA} {p pos:Pos} (hg:Gl X "reversed") (hm:X.mg "reversed"=none) (ha:PA X [a] ta) (hs:starEach [a] X.env=[(false,eval a X.env)]:=by rfl) :
  PI X tg (.Call (.Name "reversed" p) [a] [] pos) (iV ta):=by
 intro pins s σ H R I h;refine Call_ (zgR I hg hm boot_reversed (PyProof.Rows.callWith_type1 (thn (ha pos pins s σ H _ I h) fun us s1 ⟨vs,H1,I1,r1,q1⟩=>?_) hs rfl));obtain ⟨l,xs,e,hq,q⟩:=q1;subst e;obtain ⟨u,rfl,ru⟩:=zgB r1;cases ru;obtain ⟨its,rv,pl,hz⟩:=I1.list (SqL.of hq);have hl:=rv.length;refine call_reversed_list pl.isList ?_;have st:Heap.IsRevIter (s1.heap.push (revObj l (its.toArray.size - 1))) s1.heap.objs.size l ((xs.length:Int) - 1 - ((0:Nat):Int)):=by
  refine ⟨_,Heap.get?_push_size _ rfl,rfl, ?_⟩
  show Data.fields #[Value.ref l,rawInt _]=_
  rw[List.size_toArray,<-hl,show (xs.length:Int) - 1 - ((0:Nat):Int)=xs.length - 1 by omega]
 refine wpAny_pyIter_revIter (s:={ s1 with heap:=s1.heap.push (revObj l (its.toArray.size - 1)) }) st ?_;refine ⟨s1.heap.objs.size,[s1.heap.objs.size],_,ItV l xs.length,H1,rfl,I1.kept (t':=s1.toks) (fun b o e=>Heap.get?_push_of_some _ e),zr9 l _ _,st,fun b hb=>?_,q⟩;obtain rfl:b=s1.heap.objs.size:=by simpa using hb
 exact I1.fpOk (Nat.le_refl _) (I1.hok.fresh (Nat.le_refl _))
def itV (A:EF):Rho->Re (List O):=fun ρ=>(A ρ).bind fun r ρ1 q=>match coe ρ1 r with
 | some (o,ρ2)=>match fz o with
  | some (.list ds)=>.ok (ds.reverse.map O.d) ρ2 q
  | _=>.bad
 | none=>.bad
theorem Dns.getRev {H:Hp} {W:Addr->Prop} {xs:List V} {ds:List PyData} (h:Dns H W xs ds) {i:Nat} {x:V} (hx:xs.reverse[i]? = some x):∃d,ds.reverse[i]? = some d/\Dn H W x d:=by
 have hi:i < xs.length:=by
  have:=(List.getElem?_eq_some_iff.mp hx).1
  rwa [List.length_reverse] at this
 have hl:=h.length;rw[List.getElem?_reverse hi] at hx;obtain ⟨d,e1,e2⟩:=h.getV hx;exact ⟨d,by rw[List.getElem?_reverse ∅,<-hl];exact e1,e2⟩
theorem zoM {X:Cx} {E:XK} {L:List Nat} {tg e:Expr} {body:List Stmt} {A:EF} {G:GF} {S:SF} {p cpos pos:Pos} (hp:PassesOwn (model X.prog X.w) X.A X.env X.xe) (hc:X.calm=true) (hgl:Gl X "reversed") (hm:X.mg "reversed"=none) (hi:VR X E e A) (hg:VG X L tg G) (hb:VSs X E L body S)
  (hst:starEach [e] X.env=[(false,eval e X.env)]:=by rfl)
  (hs:∀x,foldedSetIterable (.Call (.Name "reversed" p) [e] [] cpos) X.env x=pure x:=by intro _;rfl):VS X E L (.For tg (.Call (.Name "reversed" p) [e] [] cpos) body [] pos) (sFor (itV A) G S):=(zja hp hc (pi_V hgl hm (zdP hi zeQ hst) hst) hg hb hs).imp fun D σ H h=>by
 obtain ⟨W,ρ,f,ok,q⟩:=h.aft;refine zlM (mk:=fun ds=>ds.reverse.map O.d) (T:=fun items=>forF G S items) ok q fun a xs ds H' W' f' ρ' s m ha na dn q=>⟨a,xs,rfl,ha, ?_⟩
 have hl:=dn.length;refine zfO (items:=ds.reverse.map O.d) (.next s m fun _ z=>z) (fun i H2 W2 ⟨_,mm⟩ hi=>?_) (fun H2 W2 ⟨_,mm⟩=>?_) (fun i H2 W2 x H3 ⟨_,mm⟩ dd hi y=>?_) (q.step m .refl)
 .rw[List.length_map,List.length_reverse] at hi;have hx:i < xs.reverse.length:=by rw[List.length_reverse];omega
  exact ⟨xs,xs.reverse[i],(mm.d a _ ha na).1,rfl,List.getElem?_eq_getElem hx⟩
 .show (ds.reverse.map O.d).length=xs.length
  rw[List.length_map,List.length_reverse,hl]
 .obtain ⟨rfl,y⟩:=y;have hx:=y xs (mm.d a _ ha na).1 rfl;obtain ⟨d,e1,e2⟩:=Dns.getRev dn hx;exact ⟨.refl,.d d,by rw[List.getElem?_map,e1];rfl,.d (e2.on mm.d)⟩
end L2
noncomputable section
namespace My
open PySem L2
def zbT:SF:=(sSeq (sAsg coe (zae [false] zbc (zac (zay coes .l (zac (eIx (zaa 1) (zaa 5)) (zac (zaa 7) aNil))) aNil)) (gtN 8))
  (sIf (gAnd (tst (e2 (zaa 8) (eC .none) (fIs true))) (gOr (tst (e2 (eIx (zaa 2) (zaa 6)) (eC .none) (fIs false))) (tst (e2 (zaa 8) (eIx (zaa 2) (zaa 6)) fLt)))) (sSeq (sSub coe (zaa 8) (zaa 2) (zaa 6))
  (sSub coe (zaa 4) (zaa 3) (zaa 6))) sNil))
def zeo:SF:=(sSeq (sAsg coe (e2 (zay coes .l (zac (eC .none) aNil)) (eB (zac (zaa 1) aNil) (f1 fLen)) fMul) (gtN 2))
  (sSeq (sAsg coe (e2 (zay coes .l (zac (eC .none) aNil)) (eB (zac (zaa 1) aNil) (f1 fLen)) fMul) (gtN 3))
  (sSeq (sFor (itE (zaa 0)) (gtT (zah (gtN 4) (zah (gtT (zah (gtN 5) (zah (gtN 6) (zah (gtN 7) zbl)))) zbl))) zbT)
  (sRet mov (zay movs mkT (zac (zaa 2) (zac (zaa 3) aNil)))))))
def zby:FC:=runF [false,false] 9 zeo
def zbd:SF:=(sSeq (za3 (eApp (zaa 3) (eIx (zaa 5) (zaa 4))))
  (sAsg coe (eIx (eIx (zaa 0) (eIx (zaa 5) (zaa 4))) ↥0) (gtN 4)))
def zeF:SF:=(sSeq (sAsg coe (zay coes .l aNil) (gtN 3))
  (sSeq (sAsg coe (zaa 2) (gtN 4))
  (sSeq (sFor (itV (zaa 1)) (gtN 5) zbd)
  (sRet mov (e1 (zaa 3) fRev)))))
def zbH:FC:=runF [false,false,false] 6 zeF
def zbO:EF:=(eIf (tst (e2 (zaa 0) (zaa 1) (fEq false))) ↥0 (eC .none))
def zc1:SF:=(sSeq (sAsg coe (zae [false,false] zby (zac (zaa 5) (zac (zaa 6) aNil))) (gtT (zah (gtN 6) (zah (gtN 9) zbl))))
  (za3 (eApp (zaa 7) (zaa 9))))
def zex:SF:=(sSeq (za3 (zae [false,false,false] zap (zac (zaa 0) (zac (zaa 1) (zac (zaa 2) aNil)))))
  (sSeq (sIf (gNot (zdM ↥0 (zaa 3) ↥(60) (fun i j=>decide (i<=j)) (fun i j=>decide (i<=j)))) sBad sNil)
  (sSeq (za3 (zae [false] zaT (zac (zaa 0) aNil)))
  (sSeq (sAsg coe (zaa 0) (gtT (zah (gtN 4) (zah (gtN 5) zbl))))
  (sSeq (sAsg coe (eLC (itR1 (zaa 4)) [none,some 1] (gtN 0) (gRet true) zbO) (gtN 6))
  (sSeq (sAsg coe (zay coes .l aNil) (gtN 7))
  (sSeq (sFor (itR1 (zaa 3)) (gtN 8) zc1)
  (sSeq (sIf (tst (e2 (eIx (zaa 6) (zaa 2)) (eC .none) (fIs false))) (sRet mov (eC .none)) sNil)
  (sRet coe (zay coes mkT (zac (eIx (zaa 6) (zaa 2)) (zac (zae [false,false,false] zbH (zac (zaa 5) (zac (zaa 7) (zac (zaa 2) aNil)))) aNil))))))))))))
def zbb:FC:=runF [false,false,false,false] 10 zex
end My
end
namespace My
open PySem L2
namespace F34
open F32 (IsO lO)
inductive WkN (rs:List Road):Nat->Int->Int->Int->Prop where
 | nil (p:Int):WkN rs 0 p p 0
 | snoc {k:Nat} {p L:Int} {r:Road}:WkN rs k p r.1 L->r∈rs->WkN rs (k+1) p r.2.1 (L+r.2.2)
def get (v:List (Option Int)) (i:Int):Option Int:=(v[i.toNat]?).getD none
def zgz (far more:List (Option Int)) (r:Road):List (Option Int):=more.set r.2.1.toNat (lO (get more r.2.1) ((get far r.1).map (·+r.2.2)))
def ze5 (n:Nat) (rs:List Road) (far:List (Option Int)):List (Option Int):=rs.foldl (zgz far) (List.replicate n none)
def start (n:Nat) (one:Int):List (Option Int):=(List.replicate n none).set one.toNat (some 0)
def gone (n:Nat) (rs:List Road) (one:Int):Nat->List (Option Int)
 | 0=>start n one
 | k+1=>ze5 n rs (gone n rs one k)
theorem zgh (far more:List (Option Int)) (r:Road):(zgz far more r).length=more.length:=by simp[zgz]
theorem zjr (far:List (Option Int)):∀(rs:List Road) (more:List (Option Int)),(rs.foldl (zgz far) more).length=more.length
 | [],_=>rfl
 | r::rs,more=>by rw[List.foldl_cons,zjr far rs,zgh]
theorem zg8 (n:Nat) (rs:List Road) (one:Int):∀k,(gone n rs one k).length=n
 | 0=>by simp[gone,start]
 | k+1=>by simp[gone,ze5,zjr]
theorem zga {v:List (Option Int)} {i j:Int} {x:Option Int} (hi:0<=i/\i < v.length) (hj:0<=j):get (v.set i.toNat x) j=if j=i then x else get v j:=by
 unfold get
 by_cases h:j=i
 .subst h;rw[if_pos rfl,List.getElem?_set_self ∅,Option.getD_some]
 .rw[if_neg h,List.getElem?_set_ne ∅]
theorem zho (n:Nat) (i:Int):get (List.replicate n none) i=none:=by
 unfold get;rw[List.getElem?_replicate];split<;>rfl
theorem zmB {n:Nat} {rs:List Road} {one v:Int} (h1:0<=one/\one < n) (hv:0<=v/\v < n):IsO (WkN rs 0 one v) (get (start n one) v):=by
 unfold start;rw[zga (by simp;omega) hv.1,zho];split
 .rename_i h;subst h;refine ⟨.nil _,fun L w=>?_⟩;cases w;omega
 .rename_i h;intro L w;cases w;exact h rfl
theorem zoF {S S':Int->Prop} {a:Option Int} (h:IsO S a) (e:∀L,S L↔S' L):IsO S' a:=by
 have:S=S':=funext fun L=>propext (e L)
 exact this ▸ h
theorem zlr {n k:Nat} {rs:List Road} {one:Int} {far:List (Option Int)} (hf:∀v,0<=v/\v < (n:Int)->IsO (WkN rs k one v) (get far v)):∀(ys xs:List Road) (more:List (Option Int)),(∀r∈ys,(0<=r.1/\r.1 < (n:Int))/\0<=r.2.1/\r.2.1 < (n:Int))->more.length=n->
  (∀v,0<=v/\v < (n:Int)->IsO (fun L=>∃r∈xs,r.2.1=v/\∃M,WkN rs k one r.1 M/\L=M+r.2.2) (get more v))->
  ∀v,0<=v/\v < (n:Int)->IsO (fun L=>∃r∈xs++ys,r.2.1=v/\∃M,WkN rs k one r.1 M/\L=M+r.2.2) (get (ys.foldl (zgz far) more) v)
 | [],xs,more,_,_,h,v,hv=>by
  rw[List.append_nil];exact h v hv
 | y::ys,xs,more,hi,hl,h,v,hv=>by
  obtain ⟨y1,y2⟩:=hi y List.mem_cons_self;have e:xs++y::ys=(xs++[y])++ys:=by simp
  rw[e,List.foldl_cons];refine zlr hf ys (xs++[y]) (zgz far more y) (fun r hr=>hi r (List.mem_cons_of_mem _ hr)) (by rw[zgh];exact hl) (fun u hu=>?_) v hv;unfold zgz;rw[zga (by rw[hl];omega) hu.1]
  by_cases c:u=y.2.1
  .rw[if_pos c];subst c;refine zoF ((h _ y2).or ((hf _ y1).add y.2.2)) fun L=>⟨?_, ?_⟩
   .rintro (⟨r,hr,a,b⟩ | ⟨A,w,a⟩)
    .exact ⟨r,List.mem_append_left _ hr,a,b⟩
    .exact ⟨y,List.mem_append_right _ (List.mem_singleton_self _),rfl,A,w,a⟩
   .rintro ⟨r,hr,a,M,w,b⟩
    rcases List.mem_append.mp hr with hr | hr
    .exact .inl ⟨r,hr,a,M,w,b⟩
    .obtain rfl:=List.mem_singleton.mp hr;exact .inr ⟨M,w,b⟩
  .rw[if_neg c];refine zoF (h u hu) fun L=>⟨fun ⟨r,hr,z⟩=>⟨r,List.mem_append_left _ hr,z⟩, ?_⟩
   rintro ⟨r,hr,a,b⟩
   rcases List.mem_append.mp hr with hr | hr
   .exact ⟨r,hr,a,b⟩
   .obtain rfl:=List.mem_singleton.mp hr;exact absurd a.symm c
theorem zcz {n:Int} {rs:List Road} {one:Int} (ok:zaw n rs) (h1:0<=one/\one < n):∀(k:Nat) (v:Int),0<=v/\v < n->IsO (WkN rs k one v) (get (gone n.toNat rs one k) v)
 | 0,v,hv=>zmB ∅ ∅
 | k+1,v,hv=>by
  have n0:=ok.n0
  have:=zlr (n:=n.toNat) (k:=k) (rs:=rs) (one:=one) (far:=gone n.toNat rs one k) (fun u hu=>zcz ok h1 k u ∅) rs [] (List.replicate n.toNat none) (fun r hr=>by
   obtain ⟨a,b,_⟩:=ok.rd r hr;exact ⟨by omega,by omega⟩) (by simp) (fun u hu=>by
   rw[zho]
   rintro L ⟨r,hr,_⟩
   cases hr) v ∅
  refine zoF this fun L=>⟨?_,fun w=>?_⟩
  .rintro ⟨r,hr,rfl,M,w,rfl⟩
   exact .snoc w hr
  .cases w with
   | snoc w hr=>exact ⟨_,hr,rfl,_,w,rfl⟩
theorem ziE {v:List (Option Int)} {i:Int}:v.set i.toNat (get v i)=v:=by
 unfold get;apply List.ext_getElem?;intro j
 by_cases h:i.toNat=j
 .subst h
  by_cases z:i.toNat < v.length
  .rw[List.getElem?_set_self z,List.getElem?_eq_getElem z,Option.getD_some]
  .rw[List.getElem?_eq_none (by simp;omega),List.getElem?_eq_none ∅]
 .rw[List.getElem?_set_ne h]
def entR (far:List (Option Int)) (p:List (Option Int)×List (Option Int)) (i:Int) (r:Road):List (Option Int)×List (Option Int):=
 match (get far r.1).map (·+r.2.2) with
 | none=>p
 | some x=>match get p.1 r.2.1 with
  | none=>(p.1.set r.2.1.toNat (some x),p.2.set r.2.1.toNat (some i))
  | some c=>if x < c then (p.1.set r.2.1.toNat (some x),p.2.set r.2.1.toNat (some i)) else p
theorem zn7 (far:List (Option Int)) (p:List (Option Int)×List (Option Int)) (i:Int) (r:Road):(entR far p i r).1=zgz far p.1 r:=by
 unfold entR zgz
 cases h:(get far r.1).map (·+r.2.2) with
 | none=>
  dsimp only
  cases c:get p.1 r.2.1 with
  | none=>rw[show lO none none=get p.1 r.2.1 from c.symm,ziE]
  | some d=>rw[show lO (some d) none=get p.1 r.2.1 from c.symm,ziE]
 | some x=>
  dsimp only
  cases c:get p.1 r.2.1 with
  | none=>rfl
  | some d=>
   dsimp only;have e:lO (some d) (some x)=if x < d then some x else some d:=rfl
   rw[e];split
   .rfl
   .rw[<-c,ziE]
def zgC (far:List (Option Int)):List Road->Int->List (Option Int)×List (Option Int)->List (Option Int)×List (Option Int)
 | [],_,p=>p
 | r::rs,i,p=>zgC far rs (i+1) (entR far p i r)
theorem zkD (far:List (Option Int)):∀(rs:List Road) (i:Int) (p:List (Option Int)×List (Option Int)),(zgC far rs i p).1=rs.foldl (zgz far) p.1
 | [],_,_=>rfl
 | r::rs,i,p=>by rw[zgC,zkD far rs,zn7,List.foldl_cons]
def EI (rs:List Road) (far:List (Option Int)) (p:List (Option Int)×List (Option Int)):Prop:=p.2.length=p.1.length/\∀v x,0<=v->get p.1 v=some x->∃k r y,get p.2 v=some k/\zaK rs k=some r/\r.2.1=v/\get far r.1=some y/\x=y+r.2.2
theorem EI.put {rs:List Road} {far:List (Option Int)} {p:List (Option Int)×List (Option Int)} {i y:Int} {r:Road} (h:EI rs far p) (hr:zaK rs i=some r) (h0:0<=r.2.1/\r.2.1 < p.1.length) (hy:get far r.1=some y):EI rs far (p.1.set r.2.1.toNat (some (y+r.2.2)),p.2.set r.2.1.toNat (some i)):=by
 obtain ⟨l,h⟩:=h;refine ⟨by simp[l],fun v x hv e=>?_⟩;dsimp only at e ⊢;rw[zga h0 hv] at e;rw[zga (by rw[l];exact h0) hv]
 by_cases c:v=r.2.1
 .rw[if_pos c] at e ⊢;cases e;exact ⟨i,r,y,rfl,hr,c.symm,hy,rfl⟩
 .rw[if_neg c] at e ⊢;exact h v x hv e
theorem EI.step {rs:List Road} {far:List (Option Int)} {p:List (Option Int)×List (Option Int)} {i:Int} {r:Road} (h:EI rs far p) (hr:zaK rs i=some r) (h0:0<=r.2.1/\r.2.1 < p.1.length):EI rs far (entR far p i r):=by
 unfold entR
 cases e:get far r.1 with
 | none=>exact h
 | some y=>
  have:=h.put hr h0 e
  dsimp only[Option.map_some]
  cases c:get p.1 r.2.1 with
  | none=>exact this
  | some d=>
   dsimp only;split
   .exact this
   .exact h
theorem zjC (far:List (Option Int)) (p:List (Option Int)×List (Option Int)) (i:Int) (r:Road):(entR far p i r).1.length=p.1.length:=by rw[zn7,zgh]
def zeU (n:Nat) (rs:List Road) (far:List (Option Int)):List (Option Int)×List (Option Int):=zgC far rs 0 (List.replicate n none,List.replicate n none)
theorem ziu (n:Nat) (rs:List Road) (far:List (Option Int)):(zeU n rs far).1=ze5 n rs far:=zkD far rs 0 _
theorem zjM {n:Nat} {rs:List Road} {far:List (Option Int)}:∀(ys:List Road) (i:Nat) (p:List (Option Int)×List (Option Int)),(∀j r,ys[j]? = some r->rs[i+j]? = some r/\0<=r.2.1/\r.2.1 < (n:Int))->p.1.length=n->EI rs far p->EI rs far (zgC far ys i p)
 | [],_,_,_,_,h=>h
 | r::ys,i,p,hs,hl,h=>by
  obtain ⟨a,b,c⟩:=hs 0 r rfl;rw[zgC];have e:((i:Int)+1)=((i+1:Nat):Int):=by omega
  rw[e];refine zjM (n:=n) ys (i+1) _ (fun j r' hj=>?_) (by rw[zjC];exact hl) (h.step (ze9 a) ⟨b,by rw[hl];exact c⟩)
  have:=hs (j+1) r' hj
  rwa [show i+(j+1)=i+1+j by omega] at this
theorem zjg {n:Int} {rs:List Road} (ok:zaw n rs) (far:List (Option Int)):EI rs far (zeU n.toNat rs far):=by
 have n0:=ok.n0;refine zjM (n:=n.toNat) rs 0 _ (fun j r hj=>?_) (by simp) ⟨by simp,fun v x _ e=>?_⟩
 .obtain ⟨_,b,_⟩:=ok.rd r (List.mem_of_getElem? hj);rw[Nat.zero_add];exact ⟨hj,by omega,by omega⟩
 .rw[zho] at e;cases e
def zcc (n:Nat) (rs:List Road) (one:Int):Nat->List (List (Option Int))
 | 0=>[]
 | k+1=>zcc n rs one k++[(zeU n rs (gone n rs one k)).2]
theorem zgZ (n:Nat) (rs:List Road) (one:Int):∀k,(zcc n rs one k).length=k
 | 0=>rfl
 | k+1=>by rw[zcc,List.length_append,zgZ n rs one k];rfl
theorem zpg {n:Int} {rs:List Road} {one v x:Int} (ok:zaw n rs) (k:Nat) (hv:0<=v/\v < n) (h:get (gone n.toNat rs one (k+1)) v=some x):∃j r y,get (zeU n.toNat rs (gone n.toNat rs one k)).2 v=some j/\zaK rs j=some r/\r.2.1=v/\get (gone n.toNat rs one k) r.1=some y/\x=y+r.2.2:=
 (zjg ok (gone n.toNat rs one k)).2 v x hv.1 (by rw[ziu];exact h)
theorem zpr (v:List (Option Int)) (i:Nat) (c:Option Int):(v.map cO).set i (cO c)=(v.set i c).map cO:=by rw[List.map_set]
theorem zkF {A:EF} {ρ ρ1 ρ2:Rho} {rv:Rv} {q:Bool} {k b:Nat} {i:Int} {v:List (Option Int)} {c:Option Int} (hA:A ρ=.ok rv ρ1 q) (ht:coe ρ1 rv=some (.d (oD c),ρ2)) (hk:ρ2[k]? = some (rowO v)) (hb:ρ2[b]? = some ⇑i) (hi:0<=i/\i < v.length) :
  sSub coe A (zaa k) (zaa b) ρ=.nx (ρ2.set k (rowO (v.set i.toNat c))):=by
 have n1:zaa k ρ2=.ok (.at k []) ρ2 true:=by unfold zaa;rw[hk];rfl
 have vb:vn ρ2 (.at b [])=some ⇑i:=by simp[vn,vw,hb,sub]
 have n2:eSc decI (zaa b) ρ2=.ok i ρ2 true:=zaD (F24.zer hb) vb rfl;have ix:ixN v.length i=some i.toNat:=zk6 hi.1 hi.2;have pu:L2.zdG ρ2 (.at k []) (fun os=>(ixN os.length i).map fun j=>os.set j (.d (oD c)))=some (ρ2.set k (rowO (v.set i.toNat c))):=by
  rw[ziI,hk];unfold rowO;simp only[List.length_map,ix,Option.map_some];rw[<-zg6,zpr]
 unfold sSub;rw[hA];dsimp only;rw[ht];dsimp only;rw[n1];dsimp only;rw[n2];dsimp only;rw[if_pos (by simp[pok]),pu]
theorem zt0 (c:Option Int) (l:Int):zbc [.l [.d (oD c),⇑l]]=.ok (.d (oD (c.map (·+l)))) []:=by
 have fzr:fz (.l [.d (oD c),⇑l])=some (rowD [c,some l]):=by rw[zhP];rfl
 have fi:fIn false (.d .none) (.l [.d (oD c),⇑l])=some (.d (.bool (decide (none∈[c,some l])))):=by
  rw[<-zgm [c,some l]];unfold fIn;rw[fzr,fz_d (rowD [c,some l])]
 cases c with
 | none=>
  have z:decide ((none:Option Int)∈[none,some l])=true:=by simp
  rw[z] at fi;generalize [O.d (oD none),⇑l]=R at *;exact zbn rfl (L2.zd5 (if_t (zaR (zau rfl rfl rfl rfl rfl fi) rfl) (zaS rfl rfl))) rfl
 | some a=>
  have z:decide (none∈[some a,some l])=false:=by simp
  have zs:f1 fSum [.l [.d (oD (some a)),⇑l]]=some ⇑(a+l):=by
   have:zsOf (.l [.d (oD (some a)),⇑l])=some [a,l]:=rfl
   show (zsOf (.l [.d (oD (some a)),⇑l])).map (fun ns=>O.d (PyData.int ns.sum))=_
   rw[this];simp
  rw[z] at fi;generalize [O.d (oD (some a)),⇑l]=R at *;exact zbn rfl (L2.zag (if_f (zaR (zau rfl rfl rfl rfl rfl fi) rfl) rfl) (zaS (zfl (zab rfl rfl rfl) rfl zs) rfl)) rfl
theorem rd_D {ρ:Rho} {k b:Nat} {v:List (Option Int)} {i:Int} (hk:ρ[k]? = some (.d (rowD v))) (hb:ρ[b]? = some ⇑i) (hi:0<=i/\i < v.length):eIx (zaa k) (zaa b) ρ=.ok (.own (.d (oD (get v i)))) ρ true:=by
 have vb:vn ρ (.at b [])=some ⇑i:=by simp[vn,vw,hb,sub]
 have g:gIx ρ (.at k []) i=some (.own (.d (oD (get v i)))):=by
  refine zgf hk (j:=i.toNat) (zcX ⟨hi.1,by simpa using hi.2⟩) ?_;have hl:i.toNat < v.length:=by omega
  unfold get;rw[List.getElem?_map,List.getElem?_eq_getElem hl,Option.getD_some,zhP];rfl
 exact za6 (q1:=true) (q2:=true) (F24.zer hk) (zaD (F24.zer hb) vb rfl) (by simp[pok]) g
theorem rd_O {ρ:Rho} {k b:Nat} {v:List (Option Int)} {i:Int} (hk:ρ[k]? = some (rowO v)) (hb:ρ[b]? = some ⇑i) (hi:0<=i/\i < v.length):eIx (zaa k) (zaa b) ρ=.ok (.own (.d (oD (get v i)))) ρ true:=by
 have vb:vn ρ (.at b [])=some ⇑i:=by simp[vn,vw,hb,sub]
 have n1:zaa k ρ=.ok (.at k []) ρ true:=by unfold zaa;rw[hk];rfl
 have hl:i.toNat < v.length:=by omega
 have g:gIx ρ (.at k []) i=some (.own (.d (oD (get v i)))):=by
  unfold rowO at hk;refine zg7 ?_ hi.1 (by simp;omega) hk;unfold get;rw[List.getElem?_map,List.getElem?_eq_getElem hl,Option.getD_some,<-zg6];rfl
 exact za6 (q1:=true) (q2:=true) n1 (zaD (F24.zer hb) vb rfl) (by simp[pok]) g
theorem zte {V W:TF} {ρ ρ1:Rho} {q1:Bool} (h:V ρ=.ok false ρ1 q1):gAnd V W ρ=.ok false ρ1 (q1&&true):=zcg h rfl
theorem ztL (a:Option Int):fIs false (.d (oD a)) (.d .none)=some (.d (.bool (decide (a=none)))):=by cases a<;>rfl
theorem zf5 {w0 z8:O} {far:List (Option Int)} {p:List (Option Int)×List (Option Int)} {i:Int} {r:Road} (h1:0<=r.1/\r.1 < far.length) (h2:0<=r.2.1/\r.2.1 < p.1.length) (hl:p.2.length=p.1.length) :
  ∃z,zbT [w0,.d (rowD far),rowO p.1,rowO p.2,⇑i,⇑r.1,⇑r.2.1,⇑r.2.2,z8]=.nx [w0,.d (rowD far),rowO (entR far p i r).1,rowO (entR far p i r).2,⇑i,⇑r.1,⇑r.2.1,⇑r.2.2,z]:=by
 have r1:=rd_D (ρ:=[w0,.d (rowD far),rowO p.1,rowO p.2,⇑i,⇑r.1,⇑r.2.1,⇑r.2.2,z8]) (k:=1) (b:=5) rfl rfl h1;have su:=zt0 (get far r.1) r.2.2;have sc:=F30.zfj ((get far r.1).map (·+r.2.2));have s1:(sAsg coe (zae [false] zbc (zac (zay coes .l (zac (eIx (zaa 1) (zaa 5)) (zac (zaa 7) aNil))) aNil)) (gtN 8)) [w0,.d (rowD far),rowO p.1,rowO p.2,⇑i,⇑r.1,⇑r.2.1,⇑r.2.2,z8]=.nx [w0,.d (rowD far),rowO p.1,rowO p.2,⇑i,⇑r.1,⇑r.2.1,⇑r.2.2,.d (oD ((get far r.1).map (·+r.2.2)))]:=
  zao (za2 (zab (zax (zab r1 (zab rfl rfl rfl) rfl) rfl (nlq rfl) rfl) rfl rfl) rfl su (by simp[sc])) rfl rfl
 refine ⟨.d (oD ((get far r.1).map (·+r.2.2))),L2.zag s1 ?_⟩;have r2:=rd_O (ρ:=[w0,.d (rowD far),rowO p.1,rowO p.2,⇑i,⇑r.1,⇑r.2.1,⇑r.2.2,.d (oD ((get far r.1).map (·+r.2.2)))]) (k:=2) (b:=6) rfl rfl h2;unfold entR
 cases hx:(get far r.1).map (·+r.2.2) with
 | none=>exact if_f (zte (zaR (zau rfl rfl rfl rfl rfl rfl) rfl)) rfl
 | some x=>
  rw[hx] at r2;have pA:(sSub coe (zaa 8) (zaa 2) (zaa 6)) [w0,.d (rowD far),rowO p.1,rowO p.2,⇑i,⇑r.1,⇑r.2.1,⇑r.2.2,.d (oD (some x))]=.nx [w0,.d (rowD far),rowO (p.1.set r.2.1.toNat (some x)),rowO p.2,⇑i,⇑r.1,⇑r.2.1,⇑r.2.2,.d (oD (some x))]:=zkF (ρ1:=[w0,.d (rowD far),rowO p.1,rowO p.2,⇑i,⇑r.1,⇑r.2.1,⇑r.2.2,.d (oD (some x))]) (ρ2:=[w0,.d (rowD far),rowO p.1,rowO p.2,⇑i,⇑r.1,⇑r.2.1,⇑r.2.2,.d (oD (some x))]) (c:=some x) (v:=p.1) rfl rfl rfl rfl h2;have pB:(sSub coe (zaa 4) (zaa 3) (zaa 6)) [w0,.d (rowD far),rowO (p.1.set r.2.1.toNat (some x)),rowO p.2,⇑i,⇑r.1,⇑r.2.1,⇑r.2.2,.d (oD (some x))]=.nx [w0,.d (rowD far),rowO (p.1.set r.2.1.toNat (some x)),rowO (p.2.set r.2.1.toNat (some i)),⇑i,⇑r.1,⇑r.2.1,⇑r.2.2,.d (oD (some x))]:=zkF (ρ1:=[w0,.d (rowD far),rowO (p.1.set r.2.1.toNat (some x)),rowO p.2,⇑i,⇑r.1,⇑r.2.1,⇑r.2.2,.d (oD (some x))]) (ρ2:=[w0,.d (rowD far),rowO (p.1.set r.2.1.toNat (some x)),rowO p.2,⇑i,⇑r.1,⇑r.2.1,⇑r.2.2,.d (oD (some x))]) (c:=some i) (v:=p.2) rfl rfl rfl rfl (by rw[hl];exact h2);have put:=L2.zag pA pB;have t8:(tst (e2 (zaa 8) (eC .none) (fIs true))) [w0,.d (rowD far),rowO p.1,rowO p.2,⇑i,⇑r.1,⇑r.2.1,⇑r.2.2,.d (oD (some x))]=.ok true [w0,.d (rowD far),rowO p.1,rowO p.2,⇑i,⇑r.1,⇑r.2.1,⇑r.2.2,.d (oD (some x))] true:=rfl;have tn:(tst (e2 (eIx (zaa 2) (zaa 6)) (eC .none) (fIs false))) [w0,.d (rowD far),rowO p.1,rowO p.2,⇑i,⇑r.1,⇑r.2.1,⇑r.2.2,.d (oD (some x))]=.ok (decide (get p.1 r.2.1=none)) [w0,.d (rowD far),rowO p.1,rowO p.2,⇑i,⇑r.1,⇑r.2.1,⇑r.2.2,.d (oD (some x))] true:=by
   have n:=ztL (get p.1 r.2.1);exact zaR (q:=true) (zau (q1:=true) (q2:=true) r2 rfl rfl rfl rfl n) rfl
  dsimp only
  cases hc:get p.1 r.2.1 with
  | none=>
   rw[hc,decide_eq_true rfl] at tn;exact if_t (zpk t8 (or_t tn)) put
  | some c=>
   rw[hc] at r2 tn;rw[decide_eq_false (by simp)] at tn;have tl:(tst (e2 (zaa 8) (eIx (zaa 2) (zaa 6)) fLt)) [w0,.d (rowD far),rowO p.1,rowO p.2,⇑i,⇑r.1,⇑r.2.1,⇑r.2.2,.d (oD (some x))]=.ok (decide (x < c)) [w0,.d (rowD far),rowO p.1,rowO p.2,⇑i,⇑r.1,⇑r.2.1,⇑r.2.2,.d (oD (some x))] true:=by
    have n:fLt ⇑x ⇑c=some (.d (.bool (decide (x < c)))):=rfl;exact zaR (q:=true) (zau (q1:=true) (q2:=true) rfl r2 rfl rfl rfl n) rfl
   dsimp only
   by_cases z:x < c
   .rw[if_pos z];rw[decide_eq_true z] at tl;exact if_t (zpk t8 (or_f tn tl)) put
   .rw[if_neg z];rw[decide_eq_false z] at tl;exact if_f (zpk t8 (or_f tn tl)) rfl
theorem zia {w0:O} {far:List (Option Int)} {n:Nat} (hf:far.length=n):∀(ys:List Road) (i:Nat) (p:List (Option Int)×List (Option Int)) (z4 z5 z6 z7 z8:O),(∀r∈ys,(0<=r.1/\r.1 < (n:Int))/\0<=r.2.1/\r.2.1 < (n:Int))->p.1.length=n->p.2.length=n->
  ∃u4 u5 u6 u7 u8,forF (gtT (zah (gtN 4) (zah (gtT (zah (gtN 5) (zah (gtN 6) (zah (gtN 7) zbl)))) zbl))) zbT (zc6 i (ys.map zar)) [w0,.d (rowD far),rowO p.1,rowO p.2,z4,z5,z6,z7,z8]=.nx [w0,.d (rowD far),rowO (zgC far ys i p).1,rowO (zgC far ys i p).2,u4,u5,u6,u7,u8]
 | [],i,p,z4,z5,z6,z7,z8,_,_,_=>⟨z4,z5,z6,z7,z8,rfl⟩
 | r::ys,i,p,z4,z5,z6,z7,z8,hr,l1,l2=>by
  obtain ⟨a,b⟩:=hr r List.mem_cons_self;obtain ⟨z,st⟩:=zf5 (w0:=w0) (z8:=z8) (p:=p) (i:=i) (r:=r) (far:=far) (by rw[hf];exact a) (by rw[l1];exact b) (by rw[l1,l2]);have e2:(entR far p i r).2.length=n:=by
   unfold entR;split
   .exact l2
   .split
    .simp[l2]
    .split
     .simp[l2]
     .exact l2
  obtain ⟨u4,u5,u6,u7,u8,lo⟩:=zia hf ys (i+1) (entR far p i r) ⇑i ⇑r.1 ⇑r.2.1 ⇑r.2.2 z (fun r' h=>hr r' (List.mem_cons_of_mem _ h)) (by rw[zjC];exact l1) e2;refine ⟨u4,u5,u6,u7,u8, ?_⟩;rw[List.map_cons,zc6,forF];have g:(gtT (zah (gtN 4) (zah (gtT (zah (gtN 5) (zah (gtN 6) (zah (gtN 7) zbl)))) zbl))) (.d (.tuple [.int i,zar r])) [w0,.d (rowD far),rowO p.1,rowO p.2,z4,z5,z6,z7,z8]=some [w0,.d (rowD far),rowO p.1,rowO p.2,⇑i,⇑r.1,⇑r.2.1,⇑r.2.2,z8]:=rfl;rw[g];dsimp only;rw[st];exact lo
theorem zj8 {c:Int} (c0:0<=c) (c1:c<=1000):fMul (.l [.d .none]) ⇑c=some (rowO (List.replicate c.toNat none)):=by
 rw[zeJ c0 c1];unfold rowO;rw[List.map_replicate];rfl
theorem zio {n:Int} {rs:List Road} {far:List (Option Int)} (ok:zaw n rs) (hf:far.length=n.toNat):zby [.d (zan rs),.d (rowD far)]=.ok (.t [rowO (zeU n.toNat rs far).1,rowO (zeU n.toNat rs far).2]) []:=by
 have n0:=ok.n0;have n1:=ok.n1;have ln:∀z2 z3,eB (zac (zaa 1) aNil) (f1 fLen) [.d (zan rs),.d (rowD far),z2,z3,.z,.z,.z,.z,.z]=.ok (.own ⇑n) [.d (zan rs),.d (rowD far),z2,z3,.z,.z,.z,.z,.z] true:=fun z2 z3=>by
  have:f1 fLen [.d (rowD far)]=some ⇑n:=by
   unfold rowD;simp[f1,fLen,els,hf];omega
  exact zfl (q1:=true) (zab (q1:=true) (q2:=true) rfl rfl rfl) rfl this
 have mu:=zj8 (c:=n) n0 ∅;obtain ⟨u4,u5,u6,u7,u8,lo⟩:=zia (w0:=.d (zan rs)) (n:=n.toNat) (far:=far) hf rs 0 (List.replicate n.toNat none,List.replicate n.toNat none) .z .z .z .z .z (fun r hr=>by
  obtain ⟨a,b,_⟩:=ok.rd r hr;exact ⟨by omega,by omega⟩) (by simp) (by simp)
 have it:∀z2 z3,itE (zaa 0) [.d (zan rs),.d (rowD far),z2,z3,.z,.z,.z,.z,.z]=.ok (zc6 0 (rs.map zar)) [.d (zan rs),.d (rowD far),z2,z3,.z,.z,.z,.z,.z] true:=fun z2 z3=>by
  unfold itE zan;rfl
 have e:zeU n.toNat rs far=zgC far rs ((0:Nat):Int) (List.replicate n.toNat none,List.replicate n.toNat none):=rfl;rw[e];generalize zgC far rs ((0:Nat):Int) (List.replicate n.toNat none,List.replicate n.toNat none)=P at *;dsimp only at lo;unfold rowO at *;generalize zan rs=R at *;generalize rowD far=Fd at *;generalize (List.replicate n.toNat none).map cO=Ns at *;exact zbn rfl (L2.zag (zao (zau (zax (zab rfl rfl rfl) rfl (nlq rfl) rfl) (ln _ _) rfl rfl rfl mu) rfl rfl) (L2.zag (zao (zau (zax (zab rfl rfl rfl) rfl (nlq rfl) rfl) (ln _ _) rfl rfl rfl mu) rfl rfl) (L2.zag (zgp (it _ _) lo) (zaS (zax (zab rfl (zab rfl rfl rfl) rfl) rfl (nlq rfl) rfl) rfl)))) rfl
theorem zkf {n:Nat} {one v x:Int} (h1:0<=one/\one < n) (hv:0<=v) (h:get (start n one) v=some x):v=one/\x=0:=by
 unfold start at h;rw[zga (by simp;omega) hv,zho] at h;split at h
 .cases h;exact ⟨by assumption,rfl⟩
 .cases h
theorem zlo {w1 w2 z:O} {n v j:Int} {rs:List Road} {r:Road} {e:List (Option Int)} {acc:List Int} (hl:acc.length<=1000) (hv:0<=v/\v < e.length) (he:get e v=some j) (hr:zaK rs j=some r) :
  zbd [.d (zan rs),w1,w2,zad acc,⇑v,.d (rowD e)]=.nx [.d (zan rs),w1,w2,zad (acc++[j]),⇑r.1,.d (rowD e)]:=by
 obtain ⟨j0,j1,j2⟩:=za9 hr;have rd:=fun (w:O)=>rd_D (ρ:=[.d (zan rs),w1,w2,w,⇑v,.d (rowD e)]) (k:=5) (b:=4) rfl rfl hv
 rw[he] at rd;have g0:∀ρ:Rho,ρ[0]? = some (.d (zan rs))->gIx ρ (.at 0 []) j=some (.own (.d (zar r))):=fun ρ h=>by
  refine zgf h (j:=j.toNat) (zcX ⟨j0,by simpa using j1⟩) ?_;rw[List.getElem?_map,j2];rfl
 have gr:=fun ρ=>(zjb (ρ:=ρ) r).1
 have lt:(acc.map fun h=>O.d (.int h)).length < sizeLine:=zd4 (by simp;omega);have ea:(acc.map fun h=>O.d (.int h))++[O.d (.int j)]=(acc++[j]).map fun h=>O.d (.int h):=by simp
 unfold zad at *;rw[<-ea];generalize (acc.map fun h=>O.d (.int h))=X at *;generalize zan rs=R at *;generalize rowD e=E at *;have s1:(za3 (eApp (zaa 3) (eIx (zaa 5) (zaa 4)))) [.d R,w1,w2,.l X,⇑v,.d E]=.nx [.d R,w1,w2,.l (X++[⇑j]),⇑v,.d E]:=zaW (zdZ rfl rfl (rd _) rfl rfl (zbQ rfl lt));have s2:(sAsg coe (eIx (eIx (zaa 0) (eIx (zaa 5) (zaa 4))) ↥0) (gtN 4)) [.d R,w1,w2,.l (X++[⇑j]),⇑v,.d E]=.nx [.d R,w1,w2,.l (X++[⇑j]),⇑r.1,.d E]:=zao (za6 (za6 rfl (zaD (rd _) rfl rfl) rfl (g0 _ rfl)) (zaD rfl rfl rfl) rfl (gr _)) rfl rfl;exact L2.zag s1 s2
theorem zhu {n:Int} {rs:List Road} {one:Int} {w1 w2:O} (ok:zaw n rs) (h1:0<=one/\one < n):∀(k:Nat) (v x:Int) (acc:List Int) (z:O),0<=v/\v < n->get (gone n.toNat rs one k) v=some x->acc.length+k<=1000->
  ∃ws z',ws.length=k/\zaZ rs one v ws=true/\zaI rs ws=x/\forF (gtN 5) zbd ((((zcc n.toNat rs one k).map rowD).reverse).map O.d) [.d (zan rs),w1,w2,zad acc,⇑v,z]=.nx [.d (zan rs),w1,w2,zad (acc++ws.reverse),⇑one,z']
 | 0,v,x,acc,z,hv,hx,hl=>by
  obtain ⟨rfl,rfl⟩:=zkf ∅ hv.1 hx;refine ⟨[],z,rfl,by simp[zaZ],rfl, ?_⟩;rw[List.reverse_nil,List.append_nil];rfl
 | k+1,v,x,acc,z,hv,hx,hl=>by
  obtain ⟨j,r,y,ej,hr,rfl,ey,rfl⟩:=zpg ok k hv hx;obtain ⟨⟨a0,a1⟩,_⟩:=ok.rd r (zbz hr);obtain ⟨ws,z',e1,e2,e3,lo⟩:=zhu (w1:=w1) (w2:=w2) ok h1 k r.1 y (acc++[j]) (.d (rowD (zeU n.toNat rs (gone n.toNat rs one k)).2)) ⟨a0,a1⟩ ey (by simp;omega);refine ⟨ws++[j],z',by simp[e1],zc7 e2 (zd7 hr), ?_, ?_⟩
  .rw[zfi,zct,zdk hr,e3];simp[zaI]
  .have el:=(zjg ok (gone n.toNat rs one k)).1;rw[ziu] at el;have ll:(ze5 n.toNat rs (gone n.toNat rs one k)).length=n.toNat:=zg8 n.toNat rs one (k+1);have st:=zlo (w1:=w1) (w2:=w2) (z:=z) (n:=n) (acc:=acc) ∅ (by rw[el,ll];omega) ej hr;rw[zcc,List.map_append,List.reverse_append,List.map_append]
   show forF (gtN 5) zbd (.d (rowD (zeU n.toNat rs (gone n.toNat rs one k)).2)::_) _=_
   rw[forF]
   show (match zbd [.d (zan rs),w1,w2,zad acc,⇑r.2.1,.d (rowD (zeU n.toNat rs (gone n.toNat rs one k)).2)] with | .nx ρ2=>_ | .ct ρ2=>_ | .br ρ2=>_ | r=>r)=_
   rw[st];dsimp only;rw[show acc++(ws++[j]).reverse=acc++[j]++ws.reverse by simp];exact lo
theorem zry {n:Int} {rs:List Road} {one v x:Int} {k:Nat} (ok:zaw n rs) (h1:0<=one/\one < n) (hk:k<=60) (hv:0<=v/\v < n) (hx:get (gone n.toNat rs one k) v=some x) :
  ∃ws,ws.length=k/\zaZ rs one v ws=true/\zaI rs ws=x/\zbH [.d (zan rs),.d (.list ((zcc n.toNat rs one k).map rowD)),⇑v]=.ok (zad ws) []:=by
 obtain ⟨ws,z',e1,e2,e3,lo⟩:=zhu (w1:=.d (.list ((zcc n.toNat rs one k).map rowD))) (w2:=⇑v) ok h1 k v x [] .z hv hx (by simp;omega);refine ⟨ws,e1,e2,e3, ?_⟩;have it:∀w3 w4,itV (zaa 1) [.d (zan rs),.d (.list ((zcc n.toNat rs one k).map rowD)),⇑v,w3,w4,.z]=.ok ((((zcc n.toNat rs one k).map rowD).reverse).map O.d) [.d (zan rs),.d (.list ((zcc n.toNat rs one k).map rowD)),⇑v,w3,w4,.z] true:=fun w3 w4=>by
  unfold itV;rfl
 have rv:=zhR ([]++ws.reverse);rw[List.nil_append,List.reverse_reverse] at rv;rw[List.nil_append] at lo;unfold zad at *;generalize (ws.reverse.map fun h=>O.d (.int h))=X at *;generalize (ws.map fun h=>O.d (.int h))=Y at *;generalize (((zcc n.toNat rs one k).map rowD).reverse).map O.d=Z at *;generalize (zcc n.toNat rs one k).map rowD=ST at *;generalize zan rs=R at *;exact zbn rfl (L2.zag (zao (zax rfl rfl (nlq rfl) rfl) rfl rfl) (L2.zag (zao rfl rfl rfl) (L2.zag (zgp (it _ _) lo) (zaS (zmN rfl rfl rv) rfl)))) rfl
theorem zmD {n one:Int} {w0 w2 w3:O} {ws:List O} (n0:0<=n) (n1:n<=20) (h1:0<=one/\one < n):∃q,eLC (itR1 (zaa 4)) [none,some 1] (gtN 0) (gRet true) zbO (w0::⇑one::w2::w3::⇑n::ws)=.ok (.own (rowO (start n.toNat one))) (w0::⇑one::w2::w3::⇑n::ws) q:=by
 obtain ⟨q,e⟩:=zd8 (js:=[none,some 1]) (G:=gtN 0) (T:=gRet true) (A:=zbO) (ρ:=w0::⇑one::w2::w3::⇑n::ws) (fun _=>true) (fun o=>match o with | ⇑p=>cO (if p=one then some 0 else none) | _=>.z) (items:=rngO 0 n.toNat) (acc:=[]) (q:=true) (fun y hy=>by
  obtain ⟨i,hi⟩:=List.getElem?_of_mem hy;obtain ⟨hi,rfl⟩:=zcN hi;have t:(tst (e2 (zaa 0) (zaa 1) (fEq false))) [⇑(0+i),⇑one]=.ok (decide (0+(i:Int)=one)) [⇑(0+i),⇑one] true:=by
   have n:fEq false ⇑(0+i) ⇑one=some (.d (.bool (decide (0+(i:Int)=one)))):=by simp;rfl
   exact zaR (q:=true) (zau (q1:=true) (q2:=true) rfl rfl rfl rfl rfl n) rfl
  by_cases c:0+(i:Int)=one
  .rw[decide_eq_true c] at t;refine ⟨[⇑(0+i),⇑one],[⇑(0+i),⇑one],true,rfl,rfl,fun _=>⟨.own ⇑0,[⇑(0+i),⇑one],true,[⇑(0+i),⇑one], ?_, ?_,rfl⟩,fun h=>by cases h⟩
   .unfold zbO eIf zis zb5;rw[t];rfl
   .show some _=some (cO (if 0+(i:Int)=one then some 0 else none),_)
    rw[if_pos c];rfl
  .rw[decide_eq_false c] at t;refine ⟨[⇑(0+i),⇑one],[⇑(0+i),⇑one],true,rfl,rfl,fun _=>⟨.own (.d .none),[⇑(0+i),⇑one],true,[⇑(0+i),⇑one], ?_, ?_,rfl⟩,fun h=>by cases h⟩
   .unfold zbO eIf zis zb5;rw[t];rfl
   .show some _=some (cO (if 0+(i:Int)=one then some 0 else none),_)
    rw[if_neg c]
    rfl)
 have em:((rngO 0 n.toNat).map fun o=>match o with | ⇑p=>cO (if p=one then some 0 else none) | _=>.z)=(start n.toNat one).map cO:=by
  apply List.ext_getElem?;intro i;unfold rngO start;rw[List.map_map,List.getElem?_map,List.getElem?_map]
  by_cases hi:i < n.toNat
  .rw[List.getElem?_range hi]
   by_cases c:i=one.toNat
   .subst c;rw[List.getElem?_set_self (by simp;omega)];simp only[Option.map_some,Function.comp];rw[if_pos ∅]
   .rw[List.getElem?_set_ne ∅,List.getElem?_replicate,if_pos hi];simp only[Option.map_some,Function.comp];rw[if_neg ∅]
  .rw[List.getElem?_eq_none (by simp;omega),List.getElem?_eq_none (by simp;omega)];rfl
 rw[F29.zdd,List.nil_append,em] at e;have it:itR1 (zaa 4) (w0::⇑one::w2::w3::⇑n::ws)=.ok (rngO 0 n.toNat) (w0::⇑one::w2::w3::⇑n::ws) true:=zfx (zaD rfl rfl rfl) (zdD ∅ ∅) rfl;unfold rowO;exact ⟨_,zmP it (zbZ (by rw[zcO];omega)) e⟩
def stO (n:Nat) (rs:List Road) (one:Int) (t:Nat):O:=.l (((zcc n rs one t).map rowD).map O.d)
theorem zf8 {n one:Int} {rs:List Road} {w0 w1 w2 w3 w4 z8 z9:O} {t:Nat} (ok:zaw n rs) (ht:t<=60) :
  ∃z,zc1 [w0,w1,w2,w3,w4,.d (zan rs),rowO (gone n.toNat rs one t),stO n.toNat rs one t,z8,z9]=.nx [w0,w1,w2,w3,w4,.d (zan rs),rowO (gone n.toNat rs one (t+1)),stO n.toNat rs one (t+1),z8,z]:=by
 have om:=zio (far:=gone n.toNat rs one t) ok (zg8 _ _ _ _);rw[ziu] at om;have f6:=zhS (gone n.toNat rs one t);have f9:=zhS (zeU n.toNat rs (gone n.toNat rs one t)).2;have lt:(((zcc n.toNat rs one t).map rowD).map O.d).length < sizeLine:=zd4 (by simp[zgZ];omega);have e:((zcc n.toNat rs one t).map rowD).map O.d++[.d (rowD (zeU n.toNat rs (gone n.toNat rs one t)).2)]=((zcc n.toNat rs one (t+1)).map rowD).map O.d:=by
  rw[zcc,List.map_append,List.map_append];rfl
 have g:gone n.toNat rs one (t+1)=ze5 n.toNat rs (gone n.toNat rs one t):=rfl;rw[g];unfold stO;rw[<-e];unfold rowO at *;generalize ((zcc n.toNat rs one t).map rowD).map O.d=ST at *;generalize (gone n.toNat rs one t).map cO=G at *;generalize (ze5 n.toNat rs (gone n.toNat rs one t)).map cO=G' at *;generalize (zeU n.toNat rs (gone n.toNat rs one t)).2.map cO=E at *;generalize rowD (zeU n.toNat rs (gone n.toNat rs one t)).2=Ed at *;generalize rowD (gone n.toNat rs one t)=Gd at *;generalize zan rs=R at *;have s1:(sAsg coe (zae [false,false] zby (zac (zaa 5) (zac (zaa 6) aNil))) (gtT (zah (gtN 6) (zah (gtN 9) zbl)))) [w0,w1,w2,w3,w4,.d R,.l G,.l ST,z8,z9]=.nx [w0,w1,w2,w3,w4,.d R,.l G',.l ST,z8,.l E]:=zao (zas (zab rfl (zab rfl rfl rfl) rfl) (zbE rfl (zbE (zfD rfl f6) rfl)) om rfl rfl) rfl rfl;have s2:(za3 (eApp (zaa 7) (zaa 9))) [w0,w1,w2,w3,w4,.d R,.l G',.l ST,z8,.l E]=.nx [w0,w1,w2,w3,w4,.d R,.l G',.l (ST++[.d Ed]),z8,.d Ed]:=zaW (zdZ rfl rfl rfl rfl (zfD rfl f9) (zbQ rfl lt));exact ⟨_,L2.zag s1 s2⟩
theorem zjT (ρ:Rho):zcx [false,false,false,false] ρ=[]:=F29.zjT ρ
theorem zjW {n one other k:Int} {rs:List Road} (ok:zaw n rs) (T:Taut rs) (h1:0<=one/\one < n) (h2:0<=other/\other < n) (k0:0<=k) (k1:k<=60) :
  (get (gone n.toNat rs one k.toNat) other=none/\zbb [.d (netD n rs),⇑one,⇑other,⇑k]=.ok (.d .none) [])\/
  (∃x ws,get (gone n.toNat rs one k.toNat) other=some x/\ws.length=k.toNat/\zaZ rs one other ws=true/\zaI rs ws=x/\zbb [.d (netD n rs),⇑one,⇑other,⇑k]=.ok (.t [⇑x,zad ws]) []):=by
 have n0:=ok.n0;have n1:=ok.n1;have cq:=zba ok h1 h2;have ct:=zb6 ok T;obtain ⟨q,es⟩:=zmD (w0:=.d (netD n rs)) (w2:=⇑other) (w3:=⇑k) (ws:=[.d (zan rs),.z,.z,.z,.z]) n0 n1 h1;obtain ⟨ρ',lo,z8,z9,rfl⟩:=zcp (G:=gtN 8) (S:=zc1) (items:=rngO 0 k.toNat) (ρ:=[.d (netD n rs),⇑one,⇑other,⇑k,⇑n,.d (zan rs),rowO (start n.toNat one),.l [],.z,.z])
  (fun t ρ=>∃z8 z9,ρ=[.d (netD n rs),⇑one,⇑other,⇑k,⇑n,.d (zan rs),rowO (gone n.toNat rs one t),stO n.toNat rs one t,z8,z9]) ⟨_,_,rfl⟩
  (fun t x ρ hx hx__=>by
   obtain ⟨z8,z9,e⟩:=hx__;subst e;obtain ⟨hi,rfl⟩:=zcN hx;obtain ⟨z,st⟩:=zf8 (w0:=.d (netD n rs)) (w1:=⇑one) (w2:=⇑other) (w3:=⇑k) (w4:=⇑n) (z8:=⇑(0+t)) (z9:=z9) (one:=one) (t:=t) ok ∅;exact ⟨_,_,rfl,st,_,z,rfl⟩)
 rw[zcO] at lo;have ch:=F43.zjp (p:=fun i j=>decide (i<=j)) (q:=fun i j=>decide (i<=j)) (A:=↥0) (B:=zaa 3) (C:=↥60) (ρ:=[.d (netD n rs),⇑one,⇑other,⇑k,.z,.z,.z,.z,.z,.z]) (zaD rfl rfl rfl) (zaD rfl rfl rfl) (decide_eq_true k0) (zaD rfl rfl rfl) (decide_eq_true k1);have rd:=rd_O (ρ:=[.d (netD n rs),⇑one,⇑other,⇑k,⇑n,.d (zan rs),rowO (gone n.toNat rs one k.toNat),stO n.toNat rs one k.toNat,z8,z9]) (k:=6) (b:=2) rfl rfl (by rw[zg8];omega);have ok3:okR k=true:=zdD ∅ ∅;have fs:=zfF ((zcc n.toNat rs one k.toNat).map rowD);have head:∀o ρ2,(sSeq (sIf (tst (e2 (eIx (zaa 6) (zaa 2)) (eC .none) (fIs false))) (sRet mov (eC .none)) sNil)
  (sRet coe (zay coes mkT (zac (eIx (zaa 6) (zaa 2)) (zac (zae [false,false,false] zbH (zac (zaa 5) (zac (zaa 7) (zac (zaa 2) aNil)))) aNil))))) [.d (netD n rs),⇑one,⇑other,⇑k,⇑n,.d (zan rs),rowO (gone n.toNat rs one k.toNat),stO n.toNat rs one k.toNat,z8,z9]=.rt o ρ2->zbb [.d (netD n rs),⇑one,⇑other,⇑k]=.ok o []:=fun o ρ2 h=>by
  refine Eq.trans ?_ (congrArg (Rc.ok _) (zjT ρ2));refine zfm (ms:=[false,false,false,false]) (n:=10) (S:=zex) (os:=[.d (netD n rs),⇑one,⇑other,⇑k]) ?_;have b4:(sAsg coe (zaa 0) (gtT (zah (gtN 4) (zah (gtN 5) zbl)))) [.d (netD n rs),⇑one,⇑other,⇑k,.z,.z,.z,.z,.z,.z]=.nx [.d (netD n rs),⇑one,⇑other,⇑k,⇑n,.d (zan rs),.z,.z,.z,.z]:=rfl;unfold stO rowO at *;generalize netD n rs=N at *;generalize zan rs=R at *;exact L2.zag (zaW (za2 (zab rfl (zab rfl (zab rfl rfl rfl) rfl) rfl) rfl cq rfl)) (L2.zag (if_f (zk8 ch) rfl) (L2.zag (zaW (za2 (zab rfl rfl rfl) rfl ct rfl)) (L2.zag b4 (L2.zag (zao es rfl rfl) (L2.zag (zao (zax rfl rfl (nlq rfl) rfl) rfl rfl) (L2.zag (zgp (zfx (zaD rfl rfl rfl) ok3 rfl) lo) h))))))
 cases hx:get (gone n.toNat rs one k.toNat) other with
 | none=>
  left
  rw[hx] at rd;refine ⟨rfl,head (.d .none) [.d (netD n rs),⇑one,⇑other,⇑k,⇑n,.d (zan rs),rowO (gone n.toNat rs one k.toNat),stO n.toNat rs one k.toNat,z8,z9] ?_⟩;exact L2.zd5 (if_t (zaR (q:=true) (zau (q1:=true) (q2:=true) rd rfl rfl rfl rfl rfl) rfl) (zaS rfl rfl))
 | some x=>
  right
  rw[hx] at rd;obtain ⟨ws,e1,e2,e3,ew⟩:=zry ok h1 (k:=k.toNat) ∅ h2 hx;refine ⟨x,ws,rfl,e1,e2,e3,head _ [.d (netD n rs),⇑one,⇑other,⇑k,⇑n,.d (zan rs),rowO (gone n.toNat rs one k.toNat),.d (.list ((zcc n.toNat rs one k.toNat).map rowD)),z8,z9] ?_⟩;unfold stO rowO zad at *;generalize netD n rs=N at *;generalize zan rs=R at *;generalize ((zcc n.toNat rs one k.toNat).map rowD).map O.d=ST at *;generalize (zcc n.toNat rs one k.toNat).map rowD=SD at *;generalize (gone n.toNat rs one k.toNat).map cO=G at *;exact L2.zag (if_f (zaR (q:=true) (zau (q1:=true) (q2:=true) rd rfl rfl rfl rfl rfl) rfl) rfl) (zaS (zax (zab rd (zab (zas (zab rfl (zab rfl (zab rfl rfl rfl) rfl) rfl) (zbE rfl (zbE (zfD rfl fs) (zbE rfl rfl))) ew rfl rfl) rfl rfl) rfl) rfl (nlq rfl) rfl) rfl)
end F34
end My
namespace L2
open PySem PySem.Spec PyProof.Rows
theorem Ows.erase {mg:Str->Option Value} {K:PySem.W.Frag} {H:Hp} {W:Addr->Prop}:∀{vs:List V} {os:List O} {As:List Addr} (k:Nat),Ows mg K H W vs os As->∃D,Ows mg K H W (vs.eraseIdx k) (os.eraseIdx k) D/\D.Sublist As
 | _,_,_,k,.nil=>⟨[],.nil,.refl _⟩
 | _,_,_,0,.cons (A:=A) (B:=B) a b=>⟨B,b,List.sublist_append_right _ _⟩
 | _,_,_,k+1,.cons (A:=A) (B:=B) a b=>by
  obtain ⟨D,d1,d2⟩:=Ows.erase k b;exact ⟨A++D,.cons a d1,List.Sublist.append (.refl _) d2⟩
def ziQ (ρ:Rho) (r:Rv) (i:Int):Option (PyData×Rho):=match vn ρ r with
 | some (.l os)=>if os.length<=sizeLine then match ixN os.length i with
  | some j=>match os[j]? with
   | some (.d x)=>match zdG ρ r fun us=>some (us.eraseIdx j) with
    | some ρ'=>some (x,ρ')
    | none=>none
   | _=>none
  | none=>none
  else none
 | _=>none
section
variable {mg:Str->Option Value} {K:PySem.W.Frag} {H:Hp} {W:Addr->Prop} {σ:St} {ρ ρ':Rho} {f:Fp}
theorem zm3 {r:Rv} {v:V} {C:List Addr} {i:Int} {x:PyData} (s:Sl mg K H W σ ρ f) (sb:∀x,Inn f x\/x∈C->W x) (dm:∀x,W x->H x≠none) (hr:RvOk mg K H W σ v r C) (hC:∀x∈C,¬Inn f x) (e:ziQ ρ r i=some (x,ρ')) :
  ∃a vs j y,v=.ref a/\H a=some (.lst vs)/\vs.length<=sizeLine/\ixN vs.length i=some j/\vs[j]? = some y/\(Inn f a\/a∈C)/\∃f',Sl mg K (upd H a (.lst (vs.eraseIdx j))) W σ ρ' f'/\(∀x,Inn f' x->Inn f x)/\Dn (upd H a (.lst (vs.eraseIdx j))) W y x:=by
 unfold ziQ at e
 cases e0:vn ρ r with
 | none=>rw[e0] at e;cases e
 | some o=>
  rw[e0] at e
  cases o with
  | l os=>
   dsimp only at e
   by_cases hz:os.length<=sizeLine
   .rw[if_pos hz] at e
    cases e1:ixN os.length i with
    | none=>rw[e1] at e;cases e
    | some j=>
     rw[e1] at e;dsimp only at e
     cases e2:os[j]? with
     | none=>rw[e2] at e;cases e
     | some w=>
      rw[e2] at e
      cases w with
      | d x0=>
       dsimp only at e
       cases e3:zdG ρ r fun us=>some (us.eraseIdx j) with
       | none=>rw[e3] at e;cases e
       | some ρ1=>
        rw[e3] at e;cases e;obtain ⟨a1,a2⟩:=zc0 e0;obtain ⟨C1,ow,_⟩:=s.vw hr a1 a2;obtain ⟨a,vs,os1,os',rfl,h1,h2,h3,h4,f4,s4,in4⟩:=zhh (A:=[]) (hv:=fun vs=>vs.eraseIdx j) s (fun x hx=>hx.elim (fun z=>sb x (.inl z)) fun hx=>hx.elim (fun z=>sb x (.inr z)) fun z=>nomatch z) dm hr hC (fun x hx=>nomatch hx) (fun x _ z=>nomatch z) e3 (fun H2 vs os os' B' ho dm hB' hA ows ndB dj=>by
         cases ho;obtain ⟨D,d1,d2⟩:=Ows.erase j (ows.on dm hB');exact ⟨D,d1,d2.nodup ndB,fun x hx=>.inl (d2.subset hx)⟩)
        cases ow with
        | @l a' vs' _ As hl ht=>
         rw[h1] at hl;cases hl;obtain ⟨y,A,y1,y2,_⟩:=ht.get e2;have hw:W a:=h4.elim (fun z=>sb a (.inl z)) fun z=>sb a (.inr z)
         have hlen:=ht.length;refine ⟨a,vs,j,y,rfl,h1,by rw[hlen];exact hz,by rw[hlen];exact e1,y1,h4,f4,s4,fun x hx=>(in4 x hx).resolve_right (fun z=>(nomatch z)), ?_⟩
         cases y2 with
         | d hd=>exact hd.on (fun c ob hc nc=>⟨by rw[zaJ (fun z=>nc (by rw[z];exact hw))];exact hc,nc⟩)
      | _=>cases e
   .rw[if_neg hz] at e;cases e
  | _=>cases e
end
def zj5 (C B:EF):EF:=fun ρ=>(C ρ).bind fun rc ρ1 q1=>if isL ρ1 rc then (B ρ1).bind fun rb ρ2 q2=>if pok ρ1 q2 rc then match vn ρ2 rb with
  | some ⇑i=>match ziQ ρ2 rc i with
   | some (x,ρ3)=>.ok (.own (.d x)) ρ3 false
   | none=>.bad
  | _=>.bad
 else .bad else .bad
section
variable {X:Cx} {E:XK}
theorem zms {c e:Expr} {C B:EF} {apos cpos:Pos} (h:PE X (.Call (.Attribute c "pop" apos) [e] [] cpos) (tBM X.K "list" zl2 (tR X.mg X.K E C) (zkb (tR X.mg X.K E B) tNil))):VR X E (.Call (.Attribute c "pop" apos) [e] [] cpos) (zj5 C B):=h.imp fun σ H Q hx__=>by
 obtain ⟨W,ρ,f,ok,q⟩:=hx__;refine twoT (T:=tyV X.K "list") ok ?_;unfold zj5 at q
 cases a:C ρ with
 | bad=>rw[a] at q;exact q
 | ex c ρ'=>rw[a] at q;exact q
 | ok rc ρ1 q1=>
  rw[a] at q;dsimp only[Re.bind] at q ⊢
  by_cases hl:isL ρ1 rc=true
  .rw[if_pos hl] at q;refine ⟨fun v H' W' f' C s r=>zn8 hl s r, ?_⟩
   cases b:B ρ1 with
   | bad=>rw[b] at q;exact q
   | ex c ρ'=>rw[b] at q;exact q
   | ok rb ρ2 q2=>
    rw[b] at q;dsimp only at q ⊢
    by_cases hp:pok ρ1 q2 rc=true
    .rw[if_pos hp] at q;refine ⟨hp,fun v u H' W' f' C D s r1 r2 n1 n2 n3 m=>?_⟩
     cases e1:vn ρ2 rb with
     | none=>rw[e1] at q;exact False.elim q
     | some o=>
      rw[e1] at q
      cases o with
      | d y=>
       cases y with
       | int i=>
        dsimp only at q
        cases e2:ziQ ρ2 rc i with
        | none=>rw[e2] at q;exact False.elim q
        | some z=>
         obtain ⟨x,ρ3⟩:=z;rw[e2] at q;obtain ⟨a1,a2⟩:=zc0 e1;obtain ⟨C1,ow,_⟩:=s.vw r2 a1 a2;rw[ow.int];obtain ⟨p,vs,j,y,rfl,h1,h2,h3,h4,h5,f4,s4,in4,dn⟩:=zm3 s (fun x hx=>m.sub' x (hx.imp id .inl)) m.dom' r1 n1 e2;obtain ⟨k1,k2,k3,k4⟩:=ziL h3;have hs:(vs.length:Int)<=sizeLine:=by exact_mod_cast h2
         have hz:(sizeLine:Int) < 2 ^ 62:=by decide
         refine ⟨p,vs,i,j,y,rfl,rfl,h1,by omega,by omega,k1,h4,q y _ W' f4 [] s4 ⟨.d dn,List.nodup_nil⟩ (fun x z=>nomatch z) ?_ (fun z=>nomatch z)⟩;exact (m.trans (Mv.put (o:=.lst (vs.eraseIdx j)) m.sub' m.dom' (h5.imp id .inl))).narrow fun x hx=>.inl (in4 x (hx.resolve_right fun z=>nomatch z))
       | _=>exact False.elim q
      | _=>exact False.elim q
    .rw[if_neg hp] at q;exact False.elim q
  .rw[if_neg hl] at q;exact False.elim q
theorem zoj {c e:Expr} {C B:EF} {apos cpos:Pos} (hc:VR X E c C) (he:VR X E e B) (h:∀{to t:TE},PE X c to->PE X e t->PE X (.Call (.Attribute c "pop" apos) [e] [] cpos) (tBM X.K "list" zl2 to (zkb t tNil))):VR X E (.Call (.Attribute c "pop" apos) [e] [] cpos) (zj5 C B):=zms (h hc he)
end
end L2
noncomputable section
namespace My
open PySem L2
def zc9:EF:=(zay coes mkT (zac (eIx (zaa 0) ↥1) (zac (eIx (zaa 0) ↥0) (zac (eIx (zaa 0) ↥2) aNil))))
def zff:SF:=(sRet coe (zay coes mkT (zac (eIx (zaa 0) ↥0) (zac (eLS (srcM true (fun ds=>ds.map O.d) (eIx (zaa 0) ↥1)) [none] (gtN 0) (gRet true) zc9) aNil))))
def zbq:FC:=runF [false] 1 zff
def zfG:SF:=(sSeq (sIf (tst (e2 (zaa 0) (eC .none) (fIs false))) (sRet mov (eC .none)) sNil)
  (sRet mov (eIx (zaa 0) ↥0)))
def zaG:FC:=runF [false] 1 zfG
def zeq:SF:=(sSeq (sIf (tst (e2 (eIx (zaa 3) ↥0) (eC (.str "none")) (fEq false))) (sRet mov (eC .none)) sNil)
  (sRet mov (zae [false,false,false,false] zco (zac (zaa 0) (zac (zaa 1) (zac (zaa 2) (zac (eIx (zaa 3) ↥1) aNil)))))))
def zam:FC:=runF [false,false,false,false] 4 zeq
def zcn:SF:=(sSeq (za3 (eApp (zaa 5) (zae [false] zaG (zac (eFz (zae [false,false,false,false] zcE (zac (zaa 0) (zac (zaa 1) (zac (zaa 2) (zac (zaa 6) aNil)))))) aNil))))
  (sSeq (za3 (eApp (zaa 5) (zae [false,false,false,false] zam (zac (zaa 0) (zac (zaa 1) (zac (zaa 2) (zac (eFz (zae [false,false,false,false] zbp (zac (zaa 0) (zac (zaa 1) (zac (zaa 2) (zac (zaa 6) aNil)))))) aNil)))))))
  (sSeq (sAsg coe (zae [false,false] zbY (zac (zaa 0) (zac (zaa 6) aNil))) (gtN 7))
  (za3 (eApp (zaa 5) (zay coes .l (zac (eIx (zaa 7) ↥0) (zac (e2 (eIx (zaa 7) ↥1) (eB (zac (e2 (eIx (zaa 7) ↥0) (eC (.str "fall")) (fEq false)) aNil) (f1 ziq)) fMul) aNil))))))))
def zgv:SF:=(sSeq (sAsg coe (zay coes .l (zac (zae [false,false] zbS (zac (zaa 0) (zac (zaa 3) aNil))) (zac (zae [false] zaG (zac (eFz (zae [false,false,false,false] zbb (zac (zaa 0) (zac (zaa 1) (zac (zaa 2) (zac (zaa 4) aNil)))))) aNil)) (zac (zae [false,false,false] zbG (zac (zaa 0) (zac (zaa 1) (zac (zaa 2) aNil)))) aNil)))) (gtN 5))
  (sSeq (sAsg coe (e2 (eFzN (zaa 5)) (zay coes .l (zac (eFz (zae [false,false,false] zb3 (zac (zaa 0) (zac (zaa 1) (zac (zaa 2) aNil))))) (zac (eFz (zae [false,false,false] zbm (zac (zaa 0) (zac (zaa 1) (zac (zaa 2) aNil))))) aNil))) fAdd) (gtN 5))
  (sSeq (za3 (eApp (zaa 5) (zae [false,false,false,false] zam (zac (zaa 0) (zac (zaa 1) (zac (zaa 2) (zac (eFz (zae [false,false,false] zaP (zac (zaa 0) (zac (zaa 1) (zac (zaa 2) aNil))))) aNil)))))))
  (sSeq (sFor (itR1 (eB (zac (eIx (zaa 0) ↥1) aNil) (f1 fLen))) (gtN 6) zcn)
  (sRet mov (zaa 5))))))
def zaB:FC:=runF [false,false,false,false,false] 8 zgv
def zhf:SF:=(sSeq (za3 (zae [false,false,false] zap (zac (zaa 0) (zac (zaa 1) (zac (zaa 2) aNil)))))
  (sRet mov (zae [false,false,false,false] zcW (zac (zaa 0) (zac (zaa 1) (zac (zaa 2) (zac (zaa 3) aNil)))))))
def zb9:FC:=runF [false,false,false,false] 4 zhf
def zfW:SF:=(sSeq (sIf (tst (e2 (zaa 0) (eC .none) (fIs false))) (sRet mov (eC .none)) sNil)
  (sRet mov (e2 ↥0 (zaa 0) fSub)))
def zaV:FC:=runF [false] 1 zfW
def zcw:EF:=(eIx (zaa 0) (zaa 1))
def zaH:EF:=(eLS (srcM true (fun ds=>ds.map O.d) (zaa 1)) [none,some 0] (gtN 0) (gRet true) zcw)
def zcH:SF:=(sSeq (sAsg coe (eFz (zae [false] zbq (zac (zaa 0) aNil))) (gtN 5))
  (sSeq (sIf (tst (e2 (zae [false,false,false,false,false] zaB (zac (zaa 5) (zac (zaa 2) (zac (zaa 1) (zac (e1 (zaa 3) fRev) (zac (zaa 4) aNil)))))) (zae [false,false,false,false,false] zaB (zac (zaa 0) (zac (zaa 1) (zac (zaa 2) (zac (zaa 3) (zac (zaa 4) aNil)))))) (fEq true))) (sRet mov (eC (.bool false))) sNil)
  (sSeq (sAsg coe (eFz (zae [false] zaz (zac (zaa 0) aNil))) (gtN 6))
  (sSeq (sIf (tst (e2 (zae [false] zaz (zac (zaa 5) aNil)) (eLC (itR1 (eIx (zaa 0) ↥0)) [none,some 6] (gtN 0) (gRet true) zaH) (fEq true))) (sRet mov (eC (.bool false))) sNil)
  (sSeq (sAsg coe (zae [false,false,false] zaF (zac (zaa 0) (zac (zaa 1) (zac (zaa 2) aNil)))) (gtT (zah (gtN 7) (zah (gtN 8) zbl))))
  (sSeq (sIf (tst (e2 (zae [false,false,false] zaF (zac (zaa 5) (zac (zaa 1) (zac (zaa 2) aNil)))) (zay coes mkT (zac (zae [false] zaV (zac (zaa 8) aNil)) (zac (zae [false] zaV (zac (zaa 7) aNil)) aNil))) (fEq true))) (sRet mov (eC (.bool false))) sNil)
  (sSeq (sAsg coe (eFz (zae [false,false,false] zaP (zac (zaa 0) (zac (zaa 1) (zac (zaa 2) aNil))))) (gtN 9))
  (sRet coe (eOr (e2 (eIx (zaa 9) ↥0) (eC (.str "none")) (fEq false)) (zae [false,false,false,false] zb9 (zac (zaa 5) (zac (zaa 2) (zac (zaa 1) (zac (e1 (eIx (zaa 9) ↥1) fRev) aNil))))))))))))))
def za4:FC:=runF [false,false,false,false,false] 10 zcH
def zbv:TF:=(tst (e2 (zaa 2) (zay coes .l aNil) (fEq true)))
def zbU:SF:=(za3 (eApp (zaa 3) (zj5 (zaa 2) (zae [true,false] zaj (zac (zaa 0) (zac (eB (zac (zaa 2) aNil) (f1 fLen)) aNil))))))
def zfC:SF:=(sSeq (sAsg coe (eB (zac (zaa 1) aNil) (f1 zgy)) (gtN 2))
  (sSeq (sAsg coe (zay coes .l aNil) (gtN 3))
  (sSeq (zdz zbv zbU)
  (sRet mov (zaa 3)))))
def zbP:FC:=runF [true,false] 4 zfC
def zaN:EF:=(zay coes mkT (zac (eIx (zaa 1) (eIx (zaa 0) ↥0)) (zac (eIx (zaa 1) (eIx (zaa 0) ↥1)) (zac (eIx (zaa 0) ↥2) aNil))))
def zaQ:EF:=(eIx (zaa 1) (zaa 0))
def zbs:EF:=(eIx (eIx (zaa 1) (eIx (zaa 2) (zaa 3))) (eIx (zaa 2) (zaa 0)))
def za1:SF:=(sIf (tst (e2 (eLC (itR1 (eIx (zaa 1) ↥0)) [none,some 9,some 6,some 10] (gtN 0) (gRet true) zbs) (eIx (zaa 8) (zaa 10)) (fEq true))) (sRet mov (eC (.bool false))) sNil)
def zds:SF:=(sSeq (sAsg coe (eFz (zae [true,false] zbP (zac (zaa 0) (zac (eB (zac (eB (zac (eIx (zaa 1) ↥0) aNil) (f1 zjL)) aNil) (f1 zgP)) aNil)))) (gtN 6))
  (sSeq (sAsg coe (eFz (zay coes mkT (zac (eIx (zaa 1) ↥0) (zac (eLS (srcM true (fun ds=>ds.map O.d) (eIx (zaa 1) ↥1)) [none,some 6] (gtN 0) (gRet true) zaN) aNil)))) (gtN 7))
  (sSeq (sIf (tst (e2 (zae [false,false,false,false,false] zaB (zac (zaa 7) (zac (eIx (zaa 6) (zaa 2)) (zac (eIx (zaa 6) (zaa 3)) (zac (eLS (srcM true (fun ds=>ds.map O.d) (zaa 4)) [none,some 6] (gtN 0) (gRet true) zaQ) (zac (zaa 5) aNil)))))) (zae [false,false,false,false,false] zaB (zac (zaa 1) (zac (zaa 2) (zac (zaa 3) (zac (zaa 4) (zac (zaa 5) aNil)))))) (fEq true))) (sRet mov (eC (.bool false))) sNil)
  (sSeq (sAsg coe (eFz (zae [false] zaz (zac (zaa 1) aNil))) (gtN 8))
  (sSeq (sAsg coe (eFz (zae [false] zaz (zac (zaa 7) aNil))) (gtN 9))
  (sSeq (sFor (itR1 (eIx (zaa 1) ↥0)) (gtN 10) za1)
  (sRet coe (e2 (zae [false,false,false] zaF (zac (zaa 7) (zac (eIx (zaa 6) (zaa 2)) (zac (eIx (zaa 6) (zaa 3)) aNil)))) (zae [false,false,false] zaF (zac (zaa 1) (zac (zaa 2) (zac (zaa 3) aNil)))) (fEq false)))))))))
def zaU:FC:=runF [true,false,false,false,false,false] 11 zds
def zdq:EF:=(zae [true,false] zaj (zac (zaa 1) (zac (e2 (zaa 2) ↥1 fAdd) aNil)))
def zeh:SF:=(sSeq (sAsg coe (zae [false,false] zbN (zac (zaa 0) (zac (zaa 1) aNil))) (gtN 2))
  (sSeq (sAsg coe (zae [true,false,false] zcj (zac (zaa 2) (zac ↥6 (zac ↥9 aNil)))) (gtT (zah (gtN 3) (zah (gtN 4) zbl))))
  (sSeq (sAsg coe (zay coes mkT (zac (e2 (zaa 3) ↥1 fAdd) (zac (zaa 4) aNil))) (gtN 5))
  (sSeq (sAsg coe (eLC (itR1 ↥4) [none,some 2,some 3] (gtN 0) (gRet true) zdq) (gtL (zah (gtN 6) (zah (gtN 7) (zah (gtN 8) (zah (gtN 9) zbl))))))
  (sSeq (sAsg coe (zay coes .l (zac (zaa 6) (zac (zaa 8) (zac (zaa 9) (zac (zaa 7) aNil))))) (gtN 10))
  (sSeq (sAsg coe (zae [true,false] zaj (zac (zaa 2) (zac ↥13 aNil))) (gtN 11))
  (sSeq (sIf (gNot (eSc trV (zae [false,false,false,false,false] za4 (zac (zaa 5) (zac (zaa 6) (zac (zaa 7) (zac (zaa 10) (zac (zaa 11) aNil)))))))) (sRet mov (eC (.bool false))) sNil)
  (sIf (gNot (eSc trV (zae [true,false,false,false,false,false] zaU (zac (zaa 2) (zac (zaa 5) (zac (zaa 6) (zac (zaa 7) (zac (zaa 10) (zac (zaa 11) aNil))))))))) (sRet mov (eC (.bool false))) sNil))))))))
def zfd:SF:=(sSeq (sFor (itR1 ↥2) (gtN 1) zeh)
  (sRet mov (eC (.bool true))))
end My
end
namespace My
open PySem L2
namespace F42
open F30 (cel)
def sumO (cs:List (Option Int)):Option Int:=if none∈cs then none else some (cs.map (·.getD 0)).sum
theorem zlb:∀cs:List (Option Int),none∉cs->dIs (cs.map optD)=some (cs.map (·.getD 0))
 | [],_=>rfl
 | none::cs,h=>absurd List.mem_cons_self h
 | some a::cs,h=>by
  have:=zlb cs fun z=>h (List.mem_cons_of_mem _ z)
  show (dIs (cs.map optD)).map (a::·)=_
  rw[this];rfl
theorem zrn (cs:List (Option Int)):zbc [rowO cs]=.ok (.d (oD (sumO cs))) []:=by
 have fr:=zhS cs;have fi:fIn false (.d .none) (rowO cs)=some (.d (.bool (decide (none∈cs)))):=by
  rw[<-zgm cs];unfold fIn;rw[fr,fz_d (rowD cs)]
 have zs:none∉cs->f1 fSum [rowO cs]=some ⇑((cs.map (·.getD 0)).sum):=fun h=>by
  have:zsOf (rowO cs)=some (cs.map (·.getD 0)):=by
   unfold zsOf;rw[fr];exact zlb cs h
  show (zsOf (rowO cs)).map (fun ns=>O.d (PyData.int ns.sum))=_
  rw[this];rfl
 unfold sumO
 by_cases h:none∈cs
 .rw[if_pos h];rw[decide_eq_true h] at fi;unfold rowO at *;generalize cs.map cO=R at *;exact zbn rfl (L2.zd5 (if_t (zaR (zau rfl rfl rfl rfl rfl fi) rfl) (zaS rfl rfl))) rfl
 .rw[if_neg h];have zs:=zs h;rw[decide_eq_false h] at fi;generalize (cs.map (·.getD 0)).sum=s at *;unfold rowO at *;generalize cs.map cO=R at *;exact zbn rfl (L2.zag (if_f (zaR (zau rfl rfl rfl rfl rfl fi) rfl) rfl) (zaS (zfl (zab rfl rfl rfl) rfl zs) rfl)) rfl
def legs (n:Int) (rs:List Road) (S:List Int):List (Option Int):=(S.zip (S.drop 1)).map fun x=>cel n rs x.1 x.2
def zlz (x:Int×Int):O:=.d (.tuple [.int x.1,.int x.2])
def legO (n:Int) (rs:List Road):O->O
 | .d (.tuple [.int a,.int b])=>cO (cel n rs a b)
 | o=>o
theorem zhJ:∀(S T:List Int),zipO (S.map PyData.int) (T.map PyData.int)=(S.zip T).map zlz
 | [],_=>by simp[zipO]
 | _::_,[]=>by simp[zipO]
 | a::S,b::T=>by
  show O.d (.tuple [.int a,.int b])::zipO (S.map PyData.int) (T.map PyData.int)=_
  rw[zhJ S T];rfl
theorem zlN {S:List Int} {D:PyData} (h1:1<=S.length):itZ (zac (zaa 1) (zac (eFz (eSl (zaa 1) (zgw ↥1) oNo)) aNil)) [.d D,.d (zal S)]=.ok ((S.zip (S.drop 1)).map zlz) [.d D,.d (zal S)] true:=by
 have sl:fSl (.d (zal S)) (some 1) none=some (.l (((S.map PyData.int).drop 1).map O.d)):=F32.zg0 ∅ (by simp;omega);have fz:fz (.l (((S.map PyData.int).drop 1).map O.d))=some (.list ((S.map PyData.int).drop 1)):=zfF _;have zo:=zhJ S (S.drop 1);rw[List.map_drop] at zo;unfold itZ;have e:(zac (zaa 1) (zac (eFz (eSl (zaa 1) (zgw ↥1) oNo)) aNil)) [.d D,.d (zal S)]=.ok [.at 1 [],.own (.d (.list ((S.map PyData.int).drop 1)))] [.d D,.d (zal S)] true:=
  zab (q1:=true) (q2:=true) rfl (zab (q1:=true) (q2:=true) (zc8 (zne (q1:=true) (q2:=true) (q3:=true) rfl (zqC (q:=true) (zaD rfl rfl rfl)) rfl rfl rfl sl) fz) rfl rfl) rfl
 rw[e];have c:coes [.d D,.d (zal S)] [.at 1 [],.own (.d (.list ((S.map PyData.int).drop 1)))]=some ([.d (zal S),.d (.list ((S.map PyData.int).drop 1))],[.d D,.d (zal S)]):=rfl;dsimp only[Re.bind];rw[c]
 show (match zz [.d (.list (S.map PyData.int)),.d (.list ((S.map PyData.int).drop 1))] with | some is=>Re.ok is [.d D,.d (zal S)] true | none=>.bad)=_
 show Re.ok (zipO (S.map PyData.int) ((S.map PyData.int).drop 1)) [.d D,.d (zal S)] true=_
 rw[zo]
theorem zoI {n:Int} {rs:List Road} {S:List Int} (n0:0<=n) (hS:∀s∈S,0<=s/\s < n) (h1:1<=S.length) (h7:S.length<=1000):zbV [.d (tabD (zaq n.toNat rs)),.d (zal S)]=.ok (.d (oD (sumO (legs n rs S)))) []:=by
 have sh:=zcV n.toNat rs;have su:=zrn (legs n rs S);have sc:=F30.zfj (sumO (legs n rs S));have iz:=zlN (D:=tabD (zaq n.toNat rs)) h1;obtain ⟨q,lc⟩:=zd8 (js:=[none,none,some 0]) (G:=gtT (zah (gtN 0) (zah (gtN 1) zbl))) (T:=gRet true) (A:=zcG) (ρ:=[.d (tabD (zaq n.toNat rs)),.d (zal S)]) (fun _=>true) (legO n rs) (items:=(S.zip (S.drop 1)).map zlz) (acc:=[]) (q:=true) (fun x hx=>by
  obtain ⟨⟨a,b⟩,hm,rfl⟩:=List.mem_map.mp hx;have ha:=hS a (List.of_mem_zip hm).1;have hb:=hS b (List.mem_of_mem_drop (List.of_mem_zip hm).2);have rd:=zpy (ρ:=[⇑a,⇑b,.d (tabD (zaq n.toNat rs))]) (k:=2) (a:=0) (b:=1) (i:=a) (j:=b) sh rfl rfl rfl ∅ ∅;refine ⟨[⇑a,⇑b,.d (tabD (zaq n.toNat rs))],_,_,rfl,rfl,fun _=>⟨_,_,_,[⇑a,⇑b,.d (tabD (zaq n.toNat rs))],rd, ?_,rfl⟩,fun z=>nomatch z⟩
  show some (O.d (oD (cell (zaq n.toNat rs) a.toNat b.toNat)),_)=some (cO (cel n rs a b),_)
  rw[zg6]
  rfl)
 have em:[]++(((S.zip (S.drop 1)).map zlz).filter fun _=>true).map (legO n rs)=(legs n rs S).map cO:=by
  rw[List.filter_eq_self.mpr (fun _ _=>rfl),List.nil_append,List.map_map];unfold legs;rw[List.map_map];rfl
 rw[em] at lc;have l:=zmP iz (by
  show ((S.zip (S.drop 1)).map zlz).length<=sizeLine
  have:(1000:Nat)<=sizeLine:=by decide
  simp only[List.length_map,List.length_zip]
  omega) lc
 unfold rowO at su;generalize (legs n rs S).map cO=R at *;generalize oD (sumO (legs n rs S))=Z at *;generalize tabD (zaq n.toNat rs)=Td at *;exact zbn rfl (zaS (za2 (zab l rfl rfl) rfl su (by simp[sc])) rfl) rfl
theorem zj0 {n:Int} {rs:List Road} {S:List Int} (ok:zaw n rs) (T:Taut rs) (hS:∀s∈S,0<=s/\s < n) (h1:1<=S.length) (h7:S.length<=7):zbS [.d (netD n rs),.d (zal S)]=.ok (.d (oD (sumO (legs n rs S)))) []:=by
 have tf:=F43.zhK ok T hS h1 h7;have ft:=zh8 (zaq n.toNat rs);have lt:=zoI (rs:=rs) ok.n0 hS h1 ∅;have sc:=F30.zfj (sumO (legs n rs S));unfold tabO at *;generalize netD n rs=N at *;generalize zal S=I at *;generalize tabD (zaq n.toNat rs)=Td at *;generalize oD (sumO (legs n rs S))=Z at *;exact zbn rfl (zaS (za2 (zab (F29.zmF (zas (zab rfl (zab rfl rfl rfl) rfl) rfl tf rfl rfl) ft) (zab rfl rfl rfl) rfl) rfl lt (by simp[sc])) rfl) rfl
end F42
namespace F42
open F30 (cel detL zaA za5 zbo detE)
open F29 (za7)
open F32 (IsO zdB onO zcA)
open F34 (WkN get gone zcz)
def zcs (r:Road):Road:=(r.2.1,r.1,r.2.2)
def numR (f:Int->Int) (r:Road):Road:=(f r.1,f r.2.1,r.2.2)
theorem zh7 (rs:List Road):(rs.map zcs).map zcs=rs:=by
 rw[List.map_map];exact (List.map_congr_left fun r _=>rfl).trans (List.map_id rs)
theorem zmf {rs:List Road} {p q L:Int} (w:Wk rs p q L):Wk (rs.map zcs) q p L:=by
 induction w with
 | nil p=>exact .nil p
 | @cons r q L hr _ ih=>exact (ih.trans (Wk.one (r:=zcs r) (List.mem_map_of_mem hr))).cast (by show L+r.2.2=_;omega)
theorem zjJ {rs:List Road} {p q L:Int} (w:Wk (rs.map zcs) q p L):Wk rs p q L:=by
 have:=zmf w
 rwa [zh7] at this
theorem znI {rs:List Road} (f:Int->Int) {p q L:Int} (w:Wk rs p q L):Wk (rs.map (numR f)) (f p) (f q) L:=by
 induction w with
 | nil p=>exact .nil _
 | @cons r q L hr _ ih=>exact Wk.cons (r:=numR f r) (List.mem_map_of_mem hr) ih
structure Perm (n:Int) (f g:Int->Int):Prop where
 to:∀x,0<=x/\x < n->0<=f x/\f x < n
 back:∀x,0<=x/\x < n->g (f x)=x
theorem zld {n:Int} {f g:Int->Int} (P:Perm n f g) {rs:List Road} (ok:zaw n rs):(rs.map (numR f)).map (numR g)=rs:=by
 rw[List.map_map];refine (List.map_congr_left fun r hr=>?_).trans (List.map_id rs);obtain ⟨a,b,_⟩:=ok.rd r hr
 show (g (f r.1),g (f r.2.1),r.2.2)=r
 rw[P.back _ a,P.back _ b]
theorem zlS {n:Int} {f g:Int->Int} (P:Perm n f g) {rs:List Road} (ok:zaw n rs) {p q L:Int} (hp:0<=p/\p < n) (hq:0<=q/\q < n) (w:Wk (rs.map (numR f)) (f p) (f q) L):Wk rs p q L:=by
 have:=znI g w
 rwa [zld P ok,P.back _ hp,P.back _ hq] at this
theorem WkN.cons {rs:List Road} {r:Road} (hr:r∈rs) {k:Nat} {p q L:Int} (w:WkN rs k p q L):p=r.2.1->WkN rs (k+1) r.1 q (r.2.2+L):=by
 induction w with
 | nil p=>
  rintro rfl
  have:=WkN.snoc (WkN.nil (rs:=rs) r.1) hr
  rwa [show (0:Int)+r.2.2=r.2.2+0 by omega] at this
 | @snoc k p L s _ hs ih=>
  intro e
  have:=WkN.snoc (ih e) hs
  rwa [show r.2.2+L+s.2.2=r.2.2+(L+s.2.2) by omega] at this
theorem zjG {rs:List Road} {k:Nat} {p q L:Int} (w:WkN rs k p q L):WkN (rs.map zcs) k q p L:=by
 induction w with
 | nil p=>exact .nil p
 | @snoc k p L r _ hr ih=>
  have:=WkN.cons (r:=zcs r) (List.mem_map_of_mem hr) ih rfl
  rwa [show (zcs r).2.2+L=L+r.2.2 by show r.2.2+L=_;omega] at this
theorem zl5 {rs:List Road} {k:Nat} {p q L:Int} (w:WkN (rs.map zcs) k q p L):WkN rs k p q L:=by
 have:=zjG w
 rwa [zh7] at this
theorem zk7 {rs:List Road} (f:Int->Int) {k:Nat} {p q L:Int} (w:WkN rs k p q L):WkN (rs.map (numR f)) k (f p) (f q) L:=by
 induction w with
 | nil p=>exact .nil _
 | @snoc k p L r _ hr ih=>exact WkN.snoc (r:=numR f r) ih (List.mem_map_of_mem hr)
theorem zno {n:Int} {f g:Int->Int} (P:Perm n f g) {rs:List Road} (ok:zaw n rs) {k:Nat} {p q L:Int} (hp:0<=p/\p < n) (hq:0<=q/\q < n) (w:WkN (rs.map (numR f)) k (f p) (f q) L):WkN rs k p q L:=by
 have:=zk7 g w
 rwa [zld P ok,P.back _ hp,P.back _ hq] at this
variable {n p q:Int} {rs:List Road}
theorem zf8 (ok:zaw n rs):zaw n (rs.map zcs):=⟨ok.n0,ok.n1,by have:=ok.len;simpa using this,fun r hr=>by
 obtain ⟨s,hs,rfl⟩:=List.mem_map.mp hr;obtain ⟨a,b,c⟩:=ok.rd s hs;exact ⟨b,a,c⟩⟩
theorem zjx {f g:Int->Int} (P:Perm n f g) (ok:zaw n rs):zaw n (rs.map (numR f)):=⟨ok.n0,ok.n1,by have:=ok.len;simpa using this,fun r hr=>by
 obtain ⟨s,hs,rfl⟩:=List.mem_map.mp hr;obtain ⟨a,b,c⟩:=ok.rd s hs;exact ⟨P.to _ a,P.to _ b,c⟩⟩
theorem zig (T:Taut rs):Taut (rs.map zcs):=fun p L w=>T p L (zjJ w)
theorem zta (ok:zaw n rs) {p q L:Int} (w:Wk rs p q L):p=q/\L=0\/(0<=p/\p < n)/\0<=q/\q < n:=by
 induction w with
 | nil p=>exact .inl ⟨rfl,rfl⟩
 | @cons r q L hr _ ih=>
  obtain ⟨a,b,c⟩:=ok.rd r hr;exact .inr ⟨a,ih.elim (fun z=>z.1 ▸ b) fun z=>z.2⟩
theorem zjy {f g:Int->Int} (P:Perm n f g) (ok:zaw n rs) (T:Taut rs) (Q:∀y,0<=y/\y < n->∃x,(0<=x/\x < n)/\f x=y):Taut (rs.map (numR f)):=fun p L w=>by
 rcases zta (zjx P ok) w with ⟨_,z⟩ | ⟨hp,_⟩
 .omega
 .obtain ⟨x,hx,rfl⟩:=Q p hp;exact T x L (zlS P ok hx hx w)
theorem zcB (ok:zaw n rs) (T:Taut rs) (hp:0<=p/\p < n) (hq:0<=q/\q < n):cel n (rs.map zcs) q p=cel n rs p q:=
 (zdB (zf8 ok) (zig T) hq hp).eq (zdB ok T hp hq) (fun L w=>⟨L,Int.le_refl _,zjJ w⟩) (fun L w=>⟨L,Int.le_refl _,zmf w⟩)
theorem zdU {f g:Int->Int} (P:Perm n f g) (Q:∀y,0<=y/\y < n->∃x,(0<=x/\x < n)/\f x=y) (ok:zaw n rs) (T:Taut rs) (hp:0<=p/\p < n) (hq:0<=q/\q < n):cel n (rs.map (numR f)) (f p) (f q)=cel n rs p q:=
 (zdB (zjx P ok) (zjy P ok T Q) (P.to _ hp) (P.to _ hq)).eq (zdB ok T hp hq) (fun L w=>⟨L,Int.le_refl _,zlS P ok hp hq w⟩) (fun L w=>⟨L,Int.le_refl _,znI f w⟩)
structure Alike (n:Int) (rs rs':List Road) (p q p' q':Int):Prop where
 len:rs'.length=rs.length
 cel:cel n rs' p' q'=cel n rs p q
 on:∀(i:Nat) (r:Road),rs[i]? = some r->∃r',rs'[i]? = some r'/\onO n rs' p' q' r'=onO n rs p q r/\(F30.cel n rs' r'.2.1 r'.1).map (r'.2.2+·)=(F30.cel n rs r.2.1 r.1).map (r.2.2+·)
 off:∀k,F30.cel n (za7 rs' k) p' q'=F30.cel n (za7 rs k) p q
 cnt:∀k,get (gone n.toNat rs' p' k) q'=get (gone n.toNat rs p k) q
theorem Alike.tight {rs':List Road} {p' q':Int} (a:Alike n rs rs' p q p' q'):zaA n rs' p' q'=zaA n rs p q:=by
 unfold F30.zaA;rw[a.cel,a.len];unfold F30.za5
 have:(List.range rs.length).filter (zbo n rs' p' q')=(List.range rs.length).filter (zbo n rs p q):=List.filter_congr fun i hi=>by
  have hi:=List.mem_range.mp hi;obtain ⟨r',e,o,_⟩:=a.on i rs[i] (List.getElem?_eq_getElem hi);unfold F30.zbo;rw[e,List.getElem?_eq_getElem hi];unfold F32.onO at o;simp only[o,a.cel]
 rw[this]
theorem Alike.det {rs':List Road} {p' q':Int} (a:Alike n rs rs' p q p' q'):detL n rs' p' q'=detL n rs p q:=by
 have e:∀s,detE n rs' p' q' s=detE n rs p q s:=fun s=>funext fun k=>by
  unfold F30.detE;rw[a.off]
 unfold F30.detL;rw[a.cel,a.tight]
 cases F30.cel n rs p q with
 | none=>rfl
 | some s=>show (zaA n rs p q).flatMap (detE n rs' p' q' s)=_;rw[e]
theorem znm (a b:Option Int) (l:Int):byC a l b=byC b l a:=by
 cases a<;>cases b<;>try rfl
 show some (_+l+_)=some (_+l+_)
 congr 1
 omega
theorem zgr (ok:zaw n rs) (k:Nat):zaw n (za7 rs k):=F29.zfP ok k
theorem zkn (ok:zaw n rs) (T:Taut rs) (hp:0<=p/\p < n) (hq:0<=q/\q < n):Alike n rs (rs.map zcs) p q q p where
 len:=List.length_map _
 cel:=zcB ok T hp hq
 on:=fun i r h=>by
  obtain ⟨a,b,_⟩:=ok.rd r (List.mem_of_getElem? h);refine ⟨zcs r,by rw[List.getElem?_map,h];rfl, ?_, ?_⟩
  .show byC (F30.cel n _ q r.2.1) r.2.2 (F30.cel n _ r.1 p)=byC (F30.cel n rs p r.1) r.2.2 (F30.cel n rs r.2.1 q)
   rw[zcB ok T b hq,zcB ok T hp a,znm]
  .show (F30.cel n _ r.1 r.2.1).map (r.2.2+·)=_
   rw[zcB ok T b a]
 off:=fun k=>by
  rw[zcA];exact zcB (zgr ok k) (F29.zdL T k) hp hq
 cnt:=fun k=>(zcz (zf8 ok) hq k p hp).eq (zcz ok hp k q hq) (fun L w=>⟨L,Int.le_refl _,zl5 w⟩) (fun L w=>⟨L,Int.le_refl _,zjG w⟩)
theorem zkQ {f g:Int->Int} (P:Perm n f g) (Q:∀y,0<=y/\y < n->∃x,(0<=x/\x < n)/\f x=y) (ok:zaw n rs) (T:Taut rs) (hp:0<=p/\p < n) (hq:0<=q/\q < n):Alike n rs (rs.map (numR f)) p q (f p) (f q) where
 len:=List.length_map _
 cel:=zdU P Q ok T hp hq
 on:=fun i r h=>by
  obtain ⟨a,b,_⟩:=ok.rd r (List.mem_of_getElem? h);refine ⟨numR f r,by rw[List.getElem?_map,h];rfl, ?_, ?_⟩
  .show byC (F30.cel n _ (f p) (f r.1)) r.2.2 (F30.cel n _ (f r.2.1) (f q))=byC (F30.cel n rs p r.1) r.2.2 (F30.cel n rs r.2.1 q)
   rw[zdU P Q ok T hp a,zdU P Q ok T b hq]
  .show (F30.cel n _ (f r.2.1) (f r.1)).map (r.2.2+·)=_
   rw[zdU P Q ok T b a]
 off:=fun k=>by
  rw[zcA];exact zdU P Q (zgr ok k) (F29.zdL T k) hp hq
 cnt:=fun k=>(zcz (zjx P ok) (P.to _ hp) k (f q) (P.to _ hq)).eq (zcz ok hp k q hq) (fun L w=>⟨L,Int.le_refl _,zno P ok hp hq w⟩) (fun L w=>⟨L,Int.le_refl _,zk7 f w⟩)
theorem zmY {f g:Int->Int} (P:Perm n f g) (Q:∀y,0<=y/\y < n->∃x,(0<=x/\x < n)/\f x=y) (ok:zaw n rs) (T:Taut rs) {S:List Int} (hS:∀s∈S,0<=s/\s < n):legs n (rs.map (numR f)) (S.map f)=legs n rs S:=by
 unfold legs;rw[<-List.map_drop,List.zip_map,List.map_map];refine List.map_congr_left fun x hx=>?_
 exact zdU P Q ok T (hS _ (List.of_mem_zip hx).1) (hS _ (List.mem_of_mem_drop (List.of_mem_zip hx).2))
theorem zkO (ok:zaw n rs) (T:Taut rs) {a b c d:Int} (ha:0<=a/\a < n) (hb:0<=b/\b < n) (hc:0<=c/\c < n) (hd:0<=d/\d < n):sumO (legs n (rs.map zcs) [d,c,b,a])=sumO (legs n rs [a,b,c,d]):=by
 show sumO [F30.cel n _ d c,F30.cel n _ c b,F30.cel n _ b a]=sumO [F30.cel n rs a b,F30.cel n rs b c,F30.cel n rs c d]
 rw[zcB ok T hc hd,zcB ok T hb hc,zcB ok T ha hb];unfold sumO;generalize F30.cel n rs a b=x;generalize F30.cel n rs b c=y;generalize F30.cel n rs c d=z
 cases x<;>cases y<;>cases z<;>simp
 omega
end F42
namespace F42
open F30 (cel detL zaA za5 zbo detE detD detO)
open F29 (za7 up)
open F32 (IsO zdB onO zcA zb4 zcJ)
open F34 (WkN get gone zcz)
theorem zgQ {ms:List Bool} {AA:AF} {ρ ρ1:Rho} {rs:List Rv} {q:Bool} {os:List O} {F:FC} {o:O} (hA:AA ρ=.ok rs ρ1 q) (hp:pass ms rs ρ1=some (os,[],ρ1)) (hF:F os=.ok o []):zae ms F AA ρ=.ok (.own o) ρ1 false:=by
 unfold zae;rw[hA];dsimp only[Re.bind];rw[hp];dsimp only;rw[hF];dsimp only;split
 .rfl
 .rfl
theorem zkU:zaG [.d .none]=.ok (.d .none) []:=rfl
theorem zlT {L:Int} {I:PyData}:zaG [.d (.tuple [.int L,I])]=.ok ⇑L []:=rfl
section
variable {n p q k:Int} {rs:List Road} {r:Road}
theorem znj (ok:zaw n rs) (T:Taut rs) (hp:0<=p/\p < n) (hq:0<=q/\q < n) (hr:zaK rs k=some r):∃o D,zcE [.d (netD n rs),⇑p,⇑q,⇑k]=.ok o []/\fz o=some D/\zaG [.d D]=.ok (.d (oD (onO n rs p q r))) []:=by
 obtain ⟨r1,r2,_⟩:=ok.rd r (zbz hr);rcases zti ok T hp hq hr with ⟨no,e⟩ | ⟨W,a,b,da,db,_,e⟩
 .refine ⟨_,_,e,fz_d _, ?_⟩
  have:onO n rs p q r=none:=by
   unfold F32.onO;rcases no with h | h
   .rw[zcJ ok T hp r1 h];rfl
   .rw[zcJ ok T r2 hq h];cases cel n rs p r.1<;>rfl
  rw[this];exact zkU
 .refine ⟨_,.tuple [.int (a+r.2.2+b),zal W],e, ?_, ?_⟩
  .have f1:=zce W;simp[fz,fzs,f1,zal]
  .have:onO n rs p q r=some (a+r.2.2+b):=by
    unfold F32.onO;rw[zb4 ok T hp r1 da,zb4 ok T r2 hq db];rfl
   rw[this];exact zlT
theorem zlU (ok:zaw n rs) (T:Taut rs) (hp:0<=p/\p < n) (hq:0<=q/\q < n) (k0:0<=k) (k1:k<=60):∃o D,zbb [.d (netD n rs),⇑p,⇑q,⇑k]=.ok o []/\fz o=some D/\zaG [.d D]=.ok (.d (oD (get (gone n.toNat rs p k.toNat) q))) []:=by
 rcases F34.zjW ok T hp hq k0 k1 with ⟨g,e⟩ | ⟨x,ws,g,_,_,_,e⟩
 .exact ⟨_,_,e,fz_d _,by rw[g];exact zkU⟩
 .refine ⟨_,.tuple [.int x,zal ws],e, ?_, ?_⟩
  .have f1:=zce ws;simp[fz,fzs,f1,zal]
  .rw[g];exact zlT
theorem zlH (ds:List PyData):fMul (.l (ds.map O.d)) ⇑0=some (.l []):=by
 simp only[fMul,els,zeE];rw[if_pos ⟨by decide,by decide,by simp⟩];rfl
theorem zk9 {N x:PyData}:zam [.d N,⇑p,⇑q,.d (.tuple [.str "none",x])]=.ok (.d .none) []:=by
 have e:=zcT;exact zbn rfl (L2.zd5 (if_t (zaR (zau (za6 rfl (zaD rfl rfl rfl) rfl rfl) rfl rfl rfl rfl e) rfl) (zaS rfl rfl))) rfl
theorem zjR {N I x:PyData} {L:Int} (h:zco [.d N,⇑p,⇑q,.d I]=.ok ⇑L []):zam [.d N,⇑p,⇑q,.d (.tuple [.str "way",I,x])]=.ok ⇑L []:=by
 have e:=zdp;exact zbn rfl (L2.zag (if_f (zaR (zau (za6 rfl (zaD rfl rfl rfl) rfl rfl) rfl rfl rfl rfl e) rfl) rfl) (zaS (za2 (zab rfl (zab rfl (zab rfl (zab (za6 rfl (zaD rfl rfl rfl) rfl rfl) rfl rfl) rfl) rfl) rfl) rfl h rfl) rfl)) rfl
theorem zje (hk:0<=k/\k < (rs.length:Int)):∀{W:List Int} {p q:Int},zaZ (za7 rs k.toNat) p q W=true->zaZ rs p q (W.map (up k))=true
 | [],p,q,h=>h
 | j::W,p,q,h=>by
  have hj:=(zem h) j List.mem_cons_self;have e:=F32.zo9 hk hj.1;simp only[List.map_cons,zaZ] at h ⊢;rw[<-e]
  cases c:zaK (za7 rs k.toNat) j with
  | none=>rw[c] at h;cases h
  | some r=>
   rw[c] at h;dsimp only at h ⊢
   by_cases z:r.1=p
   .rw[if_pos z] at h ⊢;exact zje hk h
   .rw[if_neg z] at h;cases h
theorem zlA (ok:zaw n rs) (T:Taut rs) (hp:0<=p/\p < n) (hq:0<=q/\q < n):∃o D,zaP [.d (netD n rs),⇑p,⇑q]=.ok o []/\fz o=some D/\zam [.d (netD n rs),⇑p,⇑q,.d D]=.ok (.d (oD (cel n rs p q))) []:=by
 rcases ziT ok T hp hq with ⟨no,R,e,_⟩ | ⟨W,hs,e,lw⟩
 .refine ⟨_,_,e,zir (zce _), ?_⟩;rw[zcJ ok T hp hq no];exact zk9
 .refine ⟨_,_,e,F32.zl3 _ _ _, ?_⟩;rw[zb4 ok T hp hq lw.ds];exact zjR (F43.zfw ok hp hq lw.ld (by have:=lw.lW;omega))
theorem zmz (ok:zaw n rs) (T:Taut rs) (hp:0<=p/\p < n) (hq:0<=q/\q < n) (hk:0<=k/\k < (rs.length:Int)):∃o D,zbp [.d (netD n rs),⇑p,⇑q,⇑k]=.ok o []/\fz o=some D/\zam [.d (netD n rs),⇑p,⇑q,.d D]=.ok (.d (oD (cel n (za7 rs k.toNat) p q))) []:=by
 have okS:=F29.zfP ok k.toNat;have TS:=F29.zdL T k.toNat;rcases F29.zj6 ok T hp hq hk with ⟨no,R,e,_⟩ | ⟨W,hs,e,lw⟩
 .refine ⟨_,_,e,zir (zce _), ?_⟩;rw[zcJ okS TS hp hq no];exact zk9
 .obtain ⟨hA,hL⟩:=F32.ups hk (zem lw.ld)
  have:=F43.zfw ok hp hq (zje hk lw.ld) (by have:=lw.lW;simp;omega)
  rw[hL] at this;refine ⟨_,_,e,F32.zl3 _ _ _, ?_⟩;rw[zb4 okS TS hp hq lw.ds];exact zjR this
def zln:Option Int->O
 | some v=>.l [.d (.str "fall"),⇑v]
 | none=>.l [.d (.str "free"),.l []]
def zod:Option Int->PyData
 | some v=>.list [.str "fall",.int v]
 | none=>.list [.str "free",.list []]
theorem zpt (v:Option Int):fz (zln v)=some (zod v):=by cases v<;>rfl
def zoZ:EF:=zay coes .l (zac (eIx (zaa 7) ↥0) (zac (e2 (eIx (zaa 7) ↥1) (eB (zac (e2 (eIx (zaa 7) ↥0) (eC (.str "fall")) (fEq false)) aNil) (f1 ziq)) fMul) aNil))
theorem znk (ok:zaw n rs) (T:Taut rs) (hr:zaK rs k=some r):∃os,zbY [.d (netD n rs),⇑k]=.ok (.t os) []/\
  ∀w0 w1 w2 w3 w4 w5 w6:O,∃q,zoZ [w0,w1,w2,w3,w4,w5,w6,.t os]=.ok (.own (zln ((cel n rs r.2.1 r.1).map (r.2.2+·)))) [w0,w1,w2,w3,w4,w5,w6,.t os] q:=by
 obtain ⟨r1,r2,r3⟩:=ok.rd r (zbz hr);rcases F24.zoL ok T hr with ⟨no,R,e,_⟩ | ⟨W,hs,lw,e⟩
 .refine ⟨_,e,fun w0 w1 w2 w3 w4 w5 w6=>?_⟩;rw[zcJ ok T r2 r1 no];have fe:=F32.zkL;have m0:fMul (zad (zdh R)) ⇑0=some (.l []):=by
   unfold zad
   have:((zdh R).map fun h=>O.d (.int h))=((zdh R).map PyData.int).map O.d:=by rw[List.map_map];rfl
   rw[this];exact zlH _
  unfold zad at *;generalize (zdh R).map (fun h=>O.d (.int h))=X at *;exact ⟨_,zax (zab (za6 rfl (zaD rfl rfl rfl) rfl rfl) (zab (zau (za6 rfl (zaD rfl rfl rfl) rfl rfl) (zfl (zab (zau (za6 rfl (zaD rfl rfl rfl) rfl rfl) rfl rfl rfl rfl fe) rfl rfl) rfl rfl) rfl rfl rfl m0) rfl rfl) rfl) rfl (nlq rfl) rfl⟩
 .refine ⟨_,e,fun w0 w1 w2 w3 w4 w5 w6=>?_⟩;rw[zb4 ok T r2 r1 lw.ds];have fe:=F32.zmg;have m1:fMul ⇑(r.2.2+zaI rs W) ⇑1=some ⇑(r.2.2+zaI rs W):=by
   have:=zgL (a:=r.2.2+zaI rs W) (b:=1) (by decide) (by decide)
   rwa [Int.mul_one] at this
  have ef:zln ((some (zaI rs W)).map (r.2.2+·))=.l [.d (.str "fall"),⇑(r.2.2+zaI rs W)]:=rfl;rw[ef];unfold zad at *;generalize (k::W).map (fun h=>O.d (.int h))=X at *;generalize hs.map (fun h=>O.d (.int h))=Y at *;generalize r.2.2+zaI rs W=v at *;exact ⟨_,zax (zab (za6 rfl (zaD rfl rfl rfl) rfl rfl) (zab (zau (za6 rfl (zaD rfl rfl rfl) rfl rfl) (zfl (zab (zau (za6 rfl (zaD rfl rfl rfl) rfl rfl) rfl rfl rfl rfl fe) rfl rfl) rfl rfl) rfl rfl rfl m1) rfl rfl) rfl) rfl (nlq rfl) rfl⟩
end
section
variable {N Db Dw x1 x2:PyData} {p q i:Int} {os ot:List O} {ob ow y w3 w4 z7:O}
theorem zf5 (hb:zcE [.d N,⇑p,⇑q,⇑i]=.ok ob []) (fb:fz ob=some Db) (f1:zaG [.d Db]=.ok (.d x1) []) (s1:scl (.d x1)=true)
  (hw:zbp [.d N,⇑p,⇑q,⇑i]=.ok ow []) (fw:fz ow=some Dw) (f2:zam [.d N,⇑p,⇑q,.d Dw]=.ok (.d x2) []) (s2:scl (.d x2)=true)
  (hf:zbY [.d N,⇑i]=.ok (.t ot) []) (he:∀w0 w1 w2 w3 w4 w5 w6:O,∃q,zoZ [w0,w1,w2,w3,w4,w5,w6,.t ot]=.ok (.own y) [w0,w1,w2,w3,w4,w5,w6,.t ot] q) (hl:os.length+3<=1000) :
  zcn [.d N,⇑p,⇑q,w3,w4,.l os,⇑i,z7]=.nx [.d N,⇑p,⇑q,w3,w4,.l (os++[.d x1,.d x2,y]),⇑i,.t ot]:=by
 have ln:(1000:Nat) < sizeLine:=by decide
 have b1:(za3 (eApp (zaa 5) (zae [false] zaG (zac (eFz (zae [false,false,false,false] zcE (zac (zaa 0) (zac (zaa 1) (zac (zaa 2) (zac (zaa 6) aNil)))))) aNil)))) [.d N,⇑p,⇑q,w3,w4,.l os,⇑i,z7]=.nx [.d N,⇑p,⇑q,w3,w4,.l (os++[.d x1]),⇑i,z7]:=
  zaW (zdZ rfl rfl (za2 (zab (zc8 (zgQ (zab rfl (zab rfl (zab rfl (zab rfl rfl rfl) rfl) rfl) rfl) rfl hb) fb) rfl rfl) rfl f1 (by simp[s1])) rfl rfl (zbQ rfl ∅))
 have b2:(za3 (eApp (zaa 5) (zae [false,false,false,false] zam (zac (zaa 0) (zac (zaa 1) (zac (zaa 2) (zac (eFz (zae [false,false,false,false] zbp (zac (zaa 0) (zac (zaa 1) (zac (zaa 2) (zac (zaa 6) aNil)))))) aNil))))))) [.d N,⇑p,⇑q,w3,w4,.l (os++[.d x1]),⇑i,z7]=.nx [.d N,⇑p,⇑q,w3,w4,.l (os++[.d x1]++[.d x2]),⇑i,z7]:=
  zaW (zdZ rfl rfl (za2 (zab rfl (zab rfl (zab rfl (zab (zc8 (zgQ (zab rfl (zab rfl (zab rfl (zab rfl rfl rfl) rfl) rfl) rfl) rfl hw) fw) rfl rfl) rfl) rfl) rfl) rfl f2 (by simp[s2])) rfl rfl (zbQ rfl (by simp;omega)))
 have b3:(sAsg coe (zae [false,false] zbY (zac (zaa 0) (zac (zaa 6) aNil))) (gtN 7)) [.d N,⇑p,⇑q,w3,w4,.l (os++[.d x1]++[.d x2]),⇑i,z7]=.nx [.d N,⇑p,⇑q,w3,w4,.l (os++[.d x1]++[.d x2]),⇑i,.t ot]:=
  zao (zas (zab rfl (zab rfl rfl rfl) rfl) rfl hf rfl rfl) rfl rfl
 obtain ⟨q4,e4⟩:=he (.d N) ⇑p ⇑q w3 w4 (.l (os++[.d x1]++[.d x2])) ⇑i;have b4:(za3 (eApp (zaa 5) zoZ)) [.d N,⇑p,⇑q,w3,w4,.l (os++[.d x1]++[.d x2]),⇑i,.t ot]=.nx [.d N,⇑p,⇑q,w3,w4,.l (os++[.d x1]++[.d x2]++[y]),⇑i,.t ot]:=
  zaW (zdZ rfl rfl e4 rfl rfl (zbQ rfl (by simp;omega)))
 have e:os++[.d x1,.d x2,y]=os++[.d x1]++[.d x2]++[y]:=by simp
 rw[e];exact L2.zag b1 (L2.zag b2 (L2.zag b3 b4))
end
def zeg (n:Int) (rs:List Road) (p q:Int) (i:Nat):List O:=match rs[i]? with
 | some r=>[.d (oD (onO n rs p q r)),.d (oD (cel n (za7 rs i) p q)),zln ((cel n rs r.2.1 r.1).map (r.2.2+·))]
 | none=>[]
def zfu (n:Int) (rs:List Road) (p q:Int) (i:Nat):List PyData:=match rs[i]? with
 | some r=>[oD (onO n rs p q r),oD (cel n (za7 rs i) p q),zod ((cel n rs r.2.1 r.1).map (r.2.2+·))]
 | none=>[]
theorem zim:∀{a b:List O} {x y:List PyData},fzs a=some x->fzs b=some y->fzs (a++b)=some (x++y)
 | [],b,x,y,h,k=>by cases h;exact k
 | o::a,b,x,y,h,k=>by
  rw[fzs] at h
  cases e:fz o with
  | none=>rw[e] at h;cases h
  | some z=>
   cases e2:fzs a with
   | none=>rw[e,e2] at h;cases h
   | some zs=>
    rw[e,e2] at h;cases h;rw[List.cons_append,fzs,e,zim e2 k];rfl
theorem zoy (n:Int) (rs:List Road) (p q:Int) (i:Nat):fzs (zeg n rs p q i)=some (zfu n rs p q i):=by
 unfold zeg zfu
 cases rs[i]? with
 | none=>rfl
 | some r=>
  have:=zpt ((cel n rs r.2.1 r.1).map (r.2.2+·))
  simp[fzs,fz,this]
theorem zjS (n:Int) (rs:List Road) (p q:Int) (i:Nat):(zeg n rs p q i).length<=3:=by
 unfold zeg;split<;>simp
theorem zi5 {A B:Type} (f:A->List B) (h:∀a,(f a).length<=3):∀xs:List A,(xs.flatMap f).length<=3 * xs.length
 | []=>by simp
 | x::xs=>by
  have:=zi5 f h xs
  have:=h x
  simp only[List.flatMap_cons,List.length_append,List.length_cons];omega
theorem zkV (n:Int) (rs:List Road) (p q:Int):∀m:List Nat,fzs (m.flatMap (zeg n rs p q))=some (m.flatMap (zfu n rs p q))
 | []=>rfl
 | i::m=>by
  rw[List.flatMap_cons,List.flatMap_cons];exact zim (zoy n rs p q i) (zkV n rs p q m)
theorem zjV {n p q:Int} {rs:List Road} {w3 w4 z6 z7:O} {os:List O} (ok:zaw n rs) (T:Taut rs) (hp:0<=p/\p < n) (hq:0<=q/\q < n) (hl:os.length<=100) :
  ∃u6 u7,sFor (itR1 (eB (zac (eIx (zaa 0) ↥1) aNil) (f1 fLen))) (gtN 6) zcn [.d (netD n rs),⇑p,⇑q,w3,w4,.l os,z6,z7]=.nx [.d (netD n rs),⇑p,⇑q,w3,w4,.l (os++(List.range rs.length).flatMap (zeg n rs p q)),u6,u7]:=by
 have hz:=ok.len;obtain ⟨ρ',e,h⟩:=zcp (G:=gtN 6) (S:=zcn) (items:=rngO 0 rs.length) (ρ:=[.d (netD n rs),⇑p,⇑q,w3,w4,.l os,z6,z7])
  (fun i ρ=>i<=rs.length/\∃u6 u7,ρ=[.d (netD n rs),⇑p,⇑q,w3,w4,.l (os++(List.range i).flatMap (zeg n rs p q)),u6,u7]) ⟨Nat.zero_le _,z6,z7,by simp⟩ (fun i x ρ hx hx__=>by
   obtain ⟨hi,u6,u7,e⟩:=hx__;subst e;obtain ⟨hi,rfl⟩:=zcN hx;rw[Int.zero_add];obtain ⟨r,hr,hr'⟩:=zeL (rs:=rs) (k:=(i:Int)) ∅ ∅;obtain ⟨ob,Db,b1,b2,b3⟩:=znj ok T hp hq hr;obtain ⟨ow,Dw,c1,c2,c3⟩:=zmz ok T hp hq (k:=(i:Int)) ⟨by omega,by omega⟩;obtain ⟨ot,d1,d2⟩:=znk ok T hr;have st:=zf5 (w3:=w3) (w4:=w4) (z7:=u7) (os:=os++(List.range i).flatMap (zeg n rs p q)) b1 b2 b3 (F30.zfj _) c1 c2 c3 (F30.zfj _) d1 d2 (by
    have:=zi5 (zeg n rs p q) (zjS n rs p q) (List.range i)
    rw[List.length_range] at this;rw[List.length_append]
    omega)
   refine ⟨_,_,rfl,st,by omega,⇑(i:Int),.t ot, ?_⟩;have e:zeg n rs p q i=[.d (oD (onO n rs p q r)),.d (oD (cel n (za7 rs ((i:Int)).toNat) p q)),zln ((cel n rs r.2.1 r.1).map (r.2.2+·))]:=by
    unfold zeg;rw[Int.toNat_natCast] at hr' ⊢;rw[hr']
   rw[List.range_succ,List.flatMap_append,List.append_assoc,List.flatMap_cons,List.flatMap_nil,List.append_nil,e])
 rw[zcO] at h;obtain ⟨_,u6,u7,rfl⟩:=h;refine ⟨u6,u7,zgp (zfx (zaD (F30.zo8 rfl) rfl rfl) (zdD ∅ ∅) ∅) e⟩
theorem zr2 {A:EF} {ρ ρ1 ρ2:Rho} {r:Rv} {q:Bool} {o:O} (h:A ρ=.ok r ρ1 q) (hc:coe ρ1 r=some (o,ρ2)):eFzN A ρ=.ok (.own o) ρ2 false:=by
 unfold eFzN;rw[h];dsimp only;rw[hc]
def allD (n:Int) (rs:List Road) (p q:Int) (S:List Int) (k:Int):PyData:=
 .list ([oD (sumO (legs n rs S)),oD (get (gone n.toNat rs p k.toNat) q),zal (zaA n rs p q),zal ((detL n rs p q).map Prod.fst),.list ((detL n rs p q).map detD),oD (cel n rs p q)]++(List.range rs.length).flatMap (zfu n rs p q))
theorem zft (c:Option Int):Lay 0 (oD c):=by
 cases c
 .exact Lay.none
 .exact Lay.int _
theorem zo4 (x:Int×Option Int):Lay 1 (detD x):=Lay.tuple fun d hd=>by
 simp only[List.mem_cons,List.not_mem_nil,or_false] at hd;rcases hd with rfl | rfl
 .exact Lay.int _
 .exact zft _
theorem zni (v:Option Int):Lay 2 (zod v):=by
 cases v with
 | none=>
  refine Lay.list fun d hd=>?_
  simp only[List.mem_cons,List.not_mem_nil,or_false] at hd;rcases hd with rfl | rfl
  .exact ⟨by decide +kernel,by decide +kernel⟩
  .exact ⟨by decide +kernel,by decide +kernel⟩
 | some v=>
  refine (Lay.list (n:=0) fun d hd=>?_).mono (by decide);simp only[List.mem_cons,List.not_mem_nil,or_false] at hd;rcases hd with rfl | rfl
  .exact ⟨by decide +kernel,by decide +kernel⟩
  .exact Lay.int _
theorem zjw (n:Int) (rs:List Road) (p q:Int) (S:List Int) (k:Int):Lay 3 (allD n rs p q S k):=Lay.list fun d hd=>by
 rcases List.mem_append.mp hd with hd | hd
 .simp only[List.mem_cons,List.not_mem_nil,or_false] at hd;rcases hd with rfl | rfl | rfl | rfl | rfl | rfl
  .exact (zft _).mono (by decide)
  .exact (zft _).mono (by decide)
  .exact (Lay.ints _).mono (by decide)
  .exact (Lay.ints _).mono (by decide)
  .exact Lay.list fun d hd=>by
    obtain ⟨x,_,rfl⟩:=List.mem_map.mp hd;exact zo4 x
  .exact (zft _).mono (by decide)
 .obtain ⟨i,_,hd⟩:=List.mem_flatMap.mp hd;unfold zfu at hd;split at hd
  .simp only[List.mem_cons,List.not_mem_nil,or_false] at hd;rcases hd with rfl | rfl | rfl
   .exact (zft _).mono (by decide)
   .exact (zft _).mono (by decide)
   .exact zni _
  .cases hd
theorem zhN {n p q p' q' k:Int} {rs rs':List Road} {S S':List Int} (a:Alike n rs rs' p q p' q') (h:sumO (legs n rs' S')=sumO (legs n rs S)):allD n rs' p' q' S' k=allD n rs p q S k:=by
 unfold allD;rw[h,a.cnt,a.tight,a.det,a.cel,a.len]
 have:(List.range rs.length).map (zfu n rs' p' q')=(List.range rs.length).map (zfu n rs p q):=List.map_congr_left fun i hi=>by
  have hi:=List.mem_range.mp hi;obtain ⟨r',e,o,f⟩:=a.on i rs[i] (List.getElem?_eq_getElem hi);unfold zfu;rw[e,List.getElem?_eq_getElem hi];dsimp only;rw[o,f,a.off]
 rw[List.flatMap_def,this,<-List.flatMap_def]
theorem zpL {N S D1 D4:PyData} {x0 x1 x4:PyData} {p q k:Int} {o1 o4 w3:O} {ρs:Rho} {ts ns ds:List PyData} (ps:pass [false,false] [.at 0 [],.at 3 []] [.d N,⇑p,⇑q,w3,⇑k,.z,.z,.z]=some ([.d N,.d S],[],ρs)) (n3:zaa 3 [.d N,⇑p,⇑q,w3,⇑k,.z,.z,.z]=.ok (.at 3 []) [.d N,⇑p,⇑q,w3,⇑k,.z,.z,.z] true) (t1:zbS [.d N,.d S]=.ok (.d x0) []) (s0:scl (.d x0)=true) (c1:zbb [.d N,⇑p,⇑q,⇑k]=.ok o1 []) (c2:fz o1=some D1) (c3:zaG [.d D1]=.ok (.d x1) []) (s1:scl (.d x1)=true)
  (g1:zbG [.d N,⇑p,⇑q]=.ok (.l (ts.map O.d)) []) (g2:zb3 [.d N,⇑p,⇑q]=.ok (.l (ns.map O.d)) []) (g3:zbm [.d N,⇑p,⇑q]=.ok (.l (ds.map O.d)) [])
  (l1:zaP [.d N,⇑p,⇑q]=.ok o4 []) (l2:fz o4=some D4) (l3:zam [.d N,⇑p,⇑q,.d D4]=.ok (.d x4) []) (s4:scl (.d x4)=true)
  {R:Rt} {T:SF} (rest:T [.d N,⇑p,⇑q,w3,⇑k,.l [.d x0,.d x1,.d (.list ts),.d (.list ns),.d (.list ds),.d x4],.z,.z]=R) :
  (sSeq (sAsg coe (zay coes .l (zac (zae [false,false] zbS (zac (zaa 0) (zac (zaa 3) aNil))) (zac (zae [false] zaG (zac (eFz (zae [false,false,false,false] zbb (zac (zaa 0) (zac (zaa 1) (zac (zaa 2) (zac (zaa 4) aNil)))))) aNil)) (zac (zae [false,false,false] zbG (zac (zaa 0) (zac (zaa 1) (zac (zaa 2) aNil)))) aNil)))) (gtN 5))
  (sSeq (sAsg coe (e2 (eFzN (zaa 5)) (zay coes .l (zac (eFz (zae [false,false,false] zb3 (zac (zaa 0) (zac (zaa 1) (zac (zaa 2) aNil))))) (zac (eFz (zae [false,false,false] zbm (zac (zaa 0) (zac (zaa 1) (zac (zaa 2) aNil))))) aNil))) fAdd) (gtN 5))
  (sSeq (za3 (eApp (zaa 5) (zae [false,false,false,false] zam (zac (zaa 0) (zac (zaa 1) (zac (zaa 2) (zac (eFz (zae [false,false,false] zaP (zac (zaa 0) (zac (zaa 1) (zac (zaa 2) aNil))))) aNil))))))) T))) [.d N,⇑p,⇑q,w3,⇑k,.z,.z,.z]=R:=by
 have ft:fz (.l (ts.map O.d))=some (.list ts):=zfF ts;have fn:fz (.l (ns.map O.d))=some (.list ns):=zfF ns;have fd:fz (.l (ds.map O.d))=some (.list ds):=zfF ds;have fa:fAdd (.d (.list [x0,x1,.list ts])) (.l ([PyData.list ns,.list ds].map O.d))=some (.l ((([x0,x1,.list ts]++[PyData.list ns,.list ds]:List PyData)).map O.d)):=F43.zoz (by simp);have f5:fz (.l [.d x0,.d x1,.l (ts.map O.d)])=some (.list [x0,x1,.list ts]):=by
  simp only[fz,fzs] at ft ⊢;rw[ft];rfl
 generalize ts.map O.d=ts' at *;generalize ns.map O.d=ns' at *;generalize ds.map O.d=ds' at *;have b1:(sAsg coe (zay coes .l (zac (zae [false,false] zbS (zac (zaa 0) (zac (zaa 3) aNil))) (zac (zae [false] zaG (zac (eFz (zae [false,false,false,false] zbb (zac (zaa 0) (zac (zaa 1) (zac (zaa 2) (zac (zaa 4) aNil)))))) aNil)) (zac (zae [false,false,false] zbG (zac (zaa 0) (zac (zaa 1) (zac (zaa 2) aNil)))) aNil)))) (gtN 5)) [.d N,⇑p,⇑q,w3,⇑k,.z,.z,.z]=.nx [.d N,⇑p,⇑q,w3,⇑k,.l [.d x0,.d x1,.l ts'],.z,.z]:=
  zao (zax (zab (za2 (zab rfl (zab n3 rfl rfl) rfl) ps t1 (by simp[s0])) (zab (za2 (zab (zc8 (zgQ (zab rfl (zab rfl (zab rfl (zab rfl rfl rfl) rfl) rfl) rfl) rfl c1) c2) rfl rfl) rfl c3 (by simp[s1])) (zab (zas (zab rfl (zab rfl (zab rfl rfl rfl) rfl) rfl) rfl g1 rfl rfl) rfl rfl) rfl) rfl) rfl (nlq rfl) rfl) rfl rfl
 have b2:(sAsg coe (e2 (eFzN (zaa 5)) (zay coes .l (zac (eFz (zae [false,false,false] zb3 (zac (zaa 0) (zac (zaa 1) (zac (zaa 2) aNil))))) (zac (eFz (zae [false,false,false] zbm (zac (zaa 0) (zac (zaa 1) (zac (zaa 2) aNil))))) aNil))) fAdd) (gtN 5)) [.d N,⇑p,⇑q,w3,⇑k,.l [.d x0,.d x1,.l ts'],.z,.z]=.nx [.d N,⇑p,⇑q,w3,⇑k,.l [.d x0,.d x1,.d (.list ts),.d (.list ns),.d (.list ds)],.z,.z]:=
  zao (zau (zr2 rfl (zfD rfl f5)) (zax (zab (zc8 (zas (zab rfl (zab rfl (zab rfl rfl rfl) rfl) rfl) rfl g2 rfl rfl) fn) (zab (zc8 (zas (zab rfl (zab rfl (zab rfl rfl rfl) rfl) rfl) rfl g3 rfl rfl) fd) rfl rfl) rfl) rfl (nlq rfl) rfl) rfl rfl rfl fa) rfl rfl
 have b3:(za3 (eApp (zaa 5) (zae [false,false,false,false] zam (zac (zaa 0) (zac (zaa 1) (zac (zaa 2) (zac (eFz (zae [false,false,false] zaP (zac (zaa 0) (zac (zaa 1) (zac (zaa 2) aNil))))) aNil))))))) [.d N,⇑p,⇑q,w3,⇑k,.l [.d x0,.d x1,.d (.list ts),.d (.list ns),.d (.list ds)],.z,.z]=.nx [.d N,⇑p,⇑q,w3,⇑k,.l [.d x0,.d x1,.d (.list ts),.d (.list ns),.d (.list ds),.d x4],.z,.z]:=
  zaW (zdZ rfl rfl (za2 (zab rfl (zab rfl (zab rfl (zab (zc8 (zgQ (zab rfl (zab rfl (zab rfl rfl rfl) rfl) rfl) rfl l1) l2) rfl rfl) rfl) rfl) rfl) rfl l3 (by simp[s4])) rfl rfl (zbQ (xs:=[.d x0,.d x1,.d (.list ts),.d (.list ns),.d (.list ds)]) rfl (nlq rfl)))
 exact L2.zag b1 (L2.zag b2 (L2.zag b3 rest))
theorem zji {n p q k:Int} {rs:List Road} {S:List Int} (ok:zaw n rs) (T:Taut rs) (hp:0<=p/\p < n) (hq:0<=q/\q < n) (k0:0<=k) (k1:k<=60) (hS:∀s∈S,0<=s/\s < n) (h1:1<=S.length) (h7:S.length<=7) {w3:O} (hw:w3=.d (zal S)\/w3=zad S) :
  ∃os,zaB [.d (netD n rs),⇑p,⇑q,w3,⇑k]=.ok (.l os) []/\fz (.l os)=some (allD n rs p q S k):=by
 have t1:=F42.zj0 ok T hS h1 h7;obtain ⟨o1,D1,c1,c2,c3⟩:=zlU ok T hp hq k0 k1;obtain ⟨o4,D4,l1,l2,l3⟩:=zlA ok T hp hq;have g1:=F30.zjd ok T hp hq;have g2:=F30.zlh ok T hp hq;have g3:=F30.zgO ok T hp hq;obtain ⟨u6,u7,lp⟩:=zjV (w3:=w3) (w4:=⇑k) (z6:=.z) (z7:=.z) (os:=[.d (oD (sumO (legs n rs S))),.d (oD (get (gone n.toNat rs p k.toNat) q)),.d (zal (zaA n rs p q)),.d (zal ((detL n rs p q).map Prod.fst)),.d (.list ((detL n rs p q).map detD)),.d (oD (cel n rs p q))]) ok T hp hq (by simp);have e1:∀xs:List Int,zad xs=.l ((xs.map PyData.int).map O.d):=fun xs=>by unfold zad;rw[List.map_map];rfl
 rw[e1] at g1 g2;rw[F30.zk5] at g3;have ps:∃ρs,pass [false,false] [.at 0 [],.at 3 []] [.d (netD n rs),⇑p,⇑q,w3,⇑k,.z,.z,.z]=some ([.d (netD n rs),.d (zal S)],[],ρs):=by
  generalize netD n rs=N;rcases hw with rfl | rfl
  .exact ⟨_,rfl⟩
  .exact ⟨_,zbE rfl (zbE (zfD rfl (zce S)) rfl)⟩
 obtain ⟨ρs,ps⟩:=ps;have n3:zaa 3 [.d (netD n rs),⇑p,⇑q,w3,⇑k,.z,.z,.z]=.ok (.at 3 []) [.d (netD n rs),⇑p,⇑q,w3,⇑k,.z,.z,.z] true:=by
  rcases hw with rfl | rfl<;>rfl
 refine ⟨_,zbn (n:=8) rfl (zpL ps n3 t1 (F30.zfj _) c1 c2 c3 (F30.zfj _) g1 g2 g3 l1 l2 l3 (F30.zfj _) (L2.zag lp (zaS rfl rfl))) rfl, ?_⟩;have a:fzs [.d (oD (sumO (legs n rs S))),.d (oD (get (gone n.toNat rs p k.toNat) q)),.d (zal (zaA n rs p q)),.d (zal ((detL n rs p q).map Prod.fst)),.d (.list ((detL n rs p q).map detD)),.d (oD (cel n rs p q))]=some [oD (sumO (legs n rs S)),oD (get (gone n.toNat rs p k.toNat) q),zal (zaA n rs p q),zal ((detL n rs p q).map Prod.fst),.list ((detL n rs p q).map detD),oD (cel n rs p q)]:=by simp[fzs,fz]
 rw[fz,zim a (zkV n rs p q _)];rfl
theorem ztE {A B:EF} {ρ ρ1 ρ2:Rho} {q1 q2 c:Bool} (h:eSc decB A ρ=.ok false ρ1 q1) (k:eSc decB B ρ1=.ok c ρ2 q2):eOr A B ρ=.ok (.own (.d (.bool c))) ρ2 (q1&&q2):=znL (zcg h k)
theorem ztG {A B:EF} {ρ ρ1:Rho} {q1:Bool} (h:eSc decB A ρ=.ok true ρ1 q1):eOr A B ρ=.ok (.own (.d (.bool true))) ρ1 (q1&&true):=znL (zcg h rfl)
theorem znC (ws:List Int):fRev (.d (zal ws))=some (zad ws.reverse):=by
 unfold fRev zad zal;simp only[els,zeE];rw[<-List.map_reverse,List.map_map];rfl
theorem zi6 {I:Rho->Re (Src×Bool)} {js:List (Option Nat)} {G:GF} {A:EF} {ρ:Rho} {items:List O} {kd q1:Bool} (f:O->O) (h:I ρ=.ok ((items,none),kd) ρ q1) (hl:items.length<=1000) (hA:∀x∈items,∃ρ1 r ρ3 q3 ρ4,G x (zdi js ρ)=some ρ1/\A ρ1=.ok r ρ3 q3/\coe ρ3 r=some (f x,ρ4)/\zcy js ρ4 (clrR js ρ)=ρ) :
  ∃q,eLS I js G (gRet true) A ρ=.ok (.own (.l (items.map f))) ρ q:=by
 obtain ⟨q',e⟩:=zd8 (js:=js) (G:=G) (T:=gRet true) (A:=A) (ρ:=ρ) (fun _=>true) f (items:=items) (acc:=[]) (q:=true) (fun x hx=>by
  obtain ⟨ρ1,r,ρ3,q3,ρ4,a,b,c,d⟩:=hA x hx;exact ⟨ρ1,ρ1,true,a,rfl,fun _=>⟨r,ρ3,q3,ρ4,b,c,d⟩,fun z=>nomatch z⟩)
 rw[List.filter_eq_self.mpr (fun _ _=>rfl),List.nil_append] at e
 have:(1000:Nat)<=sizeLine:=by decide
 exact ⟨_,F30.zoa h ∅ e⟩
theorem znF {I:Rho->Re (List O)} {js:List (Option Nat)} {G:GF} {A:EF} {ρ:Rho} {items:List O} {q1:Bool} (f:O->O) (h:I ρ=.ok items ρ q1) (hl:items.length<=1000) (hA:∀x∈items,∃ρ1 r ρ3 q3 ρ4,G x (zdi js ρ)=some ρ1/\A ρ1=.ok r ρ3 q3/\coe ρ3 r=some (f x,ρ4)/\zcy js ρ4 (clrR js ρ)=ρ) :
  ∃q,eLC I js G (gRet true) A ρ=.ok (.own (.l (items.map f))) ρ q:=by
 obtain ⟨q',e⟩:=zd8 (js:=js) (G:=G) (T:=gRet true) (A:=A) (ρ:=ρ) (fun _=>true) f (items:=items) (acc:=[]) (q:=true) (fun x hx=>by
  obtain ⟨ρ1,r,ρ3,q3,ρ4,a,b,c,d⟩:=hA x hx;exact ⟨ρ1,ρ1,true,a,rfl,fun _=>⟨r,ρ3,q3,ρ4,b,c,d⟩,fun z=>nomatch z⟩)
 rw[List.filter_eq_self.mpr (fun _ _=>rfl),List.nil_append] at e
 have:(1000:Nat)<=sizeLine:=by decide
 exact ⟨_,zmP h ∅ e⟩
def zqi:O->O
 | .d (.tuple [.int a,.int b,.int l])=>.d (zar (b,a,l))
 | o=>o
theorem zpe {A:EF} {ρ:Rho} {q view:Bool} {o:O} {ds:List PyData} {mk:List PyData->List O} (h:A ρ=.ok (.own o) ρ q) (f:fz o=some (.list ds)):srcM view mk A ρ=.ok ((mk ds,none),true) ρ q:=by
 have e:=F30.zjm (mk:=mk) h f
 cases view with
 | false=>exact e
 | true=>
  have:srcM true mk A ρ=srcM false mk A ρ:=by
   unfold srcM;rw[h];rfl
  rw[this,e]
theorem zhL {n:Int} {rs:List Road} {k:Nat} {ρ:Rho} {view:Bool} (h:ρ[k]? = some (.d (netD n rs))):srcM view (fun ds=>ds.map O.d) (eIx (zaa k) ↥1) ρ=.ok (((rs.map zar).map O.d,none),true) ρ (true&&true):=by
 have gn:=zgM (n:=n) (rs:=rs) (ρ:=ρ) (j:=k) h;have ix:eIx (zaa k) ↥1 ρ=.ok (.own (.d (.list (rs.map zar)))) ρ (true&&true):=za6 (F24.zer h) (zaD rfl rfl rfl) rfl gn;exact zpe ix (fz_d _)
theorem zkT {n:Int} {rs:List Road} (hl:rs.length<=60):zbq [.d (netD n rs)]=.ok (netO n (rs.map zcs)) []:=by
 have sr:=zhL (n:=n) (rs:=rs) (k:=0) (view:=true) (ρ:=[.d (netD n rs)]) rfl;obtain ⟨q,e⟩:=zi6 (js:=[none]) (G:=gtN 0) (A:=zc9) zqi sr (by simp;omega) (fun x hx=>by
  rw[List.map_map] at hx;obtain ⟨r,_,rfl⟩:=List.mem_map.mp hx;exact ⟨[.d (zar r)],.own (.d (zar (zcs r))),[.d (zar r)],_,[.d (zar r)],rfl,zax (zab (za6 rfl (zaD rfl rfl rfl) rfl rfl) (zab (za6 rfl (zaD rfl rfl rfl) rfl rfl) (zab (za6 rfl (zaD rfl rfl rfl) rfl rfl) rfl rfl) rfl) rfl) rfl (nlq rfl) rfl,rfl,rfl⟩)
 have em:(((rs.map zar).map O.d).map zqi)=(rs.map zcs).map fun r=>O.d (zar r):=by
  rw[List.map_map,List.map_map,List.map_map];exact List.map_congr_left fun r _=>rfl
 rw[em] at e;have g0:=F43.zrN (n:=n) (rs:=rs) (ρ:=[.d (netD n rs)]) (j:=0) rfl;unfold netO zbA;generalize netD n rs=N at *;generalize (rs.map zcs).map (fun r=>O.d (zar r))=X at *;exact zbn rfl (zaS (zax (zab (za6 (q1:=true) (q2:=true) rfl (zaD rfl rfl rfl) rfl g0) (zab e rfl rfl) rfl) rfl (nlq rfl) rfl) rfl) rfl
def zhb (n:Nat) (t:Tab):Tab:=(List.range n).map fun j:Nat=>t.map fun r=>get r (j:Int)
theorem ziZ {t:Tab} {i j:Nat} {r:List (Option Int)} (h:t[i]? = some r):get r (j:Int)=cell t i j:=by
 unfold F34.get cell;rw[h,Int.toNat_natCast];rfl
theorem zpj {n:Nat} {t:Tab} (sh:Shape n t):Shape n (zhb n t):=⟨by simp[zhb],fun r hr=>by
 obtain ⟨j,_,rfl⟩:=List.mem_map.mp hr;rw[List.length_map,sh.len]⟩
theorem zkw {n:Nat} {t:Tab} (sh:Shape n t) {i j:Nat} (hi:i < n) (hj:j < n):cell (zhb n t) i j=cell t j i:=by
 have hj':j < t.length:=by rw[sh.len];exact hj
 have e:(zhb n t)[i]? = some (t.map fun r=>get r (i:Int)):=by
  unfold zhb;rw[List.getElem?_map,List.getElem?_range hi];rfl
 rw[<-ziZ e];unfold F34.get;simp only[Int.toNat_natCast];rw[List.getElem?_map,List.getElem?_eq_getElem hj']
 show (some (t[j][i]?.getD none)).getD none=_
 have:=ziZ (t:=t) (i:=j) (j:=i) (List.getElem?_eq_getElem hj')
 unfold F34.get at this;rw[Int.toNat_natCast] at this;exact this
 /- -/
theorem zjZ {n:Int} {rs:List Road} (ok:zaw n rs) (T:Taut rs):zhb n.toNat (zaq n.toNat rs)=zaq n.toNat (rs.map zcs):=by
 have sh:=zcV n.toNat rs;have sh':=zcV n.toNat (rs.map zcs);refine zo2 (zpj sh) sh' fun i j hi hj=>?_
 rw[zkw sh hi hj]
 have:=zcB (p:=(j:Int)) (q:=(i:Int)) ok T ⟨by omega,by omega⟩ ⟨by omega,by omega⟩
 unfold F30.cel at this;simp only[Int.toNat_natCast] at this;exact this.symm
theorem zpm {n:Int} {t:Tab} {w0 w1 w2 w3 w4 w5 w7 w8 w9:O} (n0:0<=n) (n1:n<=20) (sh:Shape n.toNat t) (g0:∀ρ:Rho,ρ[0]? = some w0->eIx (zaa 0) ↥0 ρ=.ok (.own ⇑n) ρ true) :
  ∃q,eLC (itR1 (eIx (zaa 0) ↥0)) [none,some 6] (gtN 0) (gRet true) zaH [w0,w1,w2,w3,w4,w5,.d (tabD t),w7,w8,w9]=.ok (.own (tabO (zhb n.toNat t))) [w0,w1,w2,w3,w4,w5,.d (tabD t),w7,w8,w9] q:=by
 have ln:=sh.len;have it:itR1 (eIx (zaa 0) ↥0) [w0,w1,w2,w3,w4,w5,.d (tabD t),w7,w8,w9]=.ok (rngO 0 n.toNat) [w0,w1,w2,w3,w4,w5,.d (tabD t),w7,w8,w9] true:=zfx (zaD (g0 _ rfl) rfl rfl) (zdD ∅ ∅) rfl;obtain ⟨q,e⟩:=znF (js:=[none,some 6]) (G:=gtN 0) (A:=zaH) (fun o=>match o with | ⇑j=>rowO (t.map fun r=>get r j) | o=>o) it (by simp;omega) (fun x hx=>by
  obtain ⟨i,hi,rfl⟩:=List.mem_map.mp hx;have hi:=List.mem_range.mp hi;rw[Int.zero_add];have sr:srcM true (fun ds=>ds.map O.d) (zaa 1) [⇑(i:Int),.d (tabD t)]=.ok (((t.map rowD).map O.d,none),true) [⇑(i:Int),.d (tabD t)] true:=F24.znZ rfl;obtain ⟨q2,e2⟩:=zi6 (js:=[none,some 0]) (G:=gtN 0) (A:=zcw) (fun o=>match o with | .d D=>cO (get (zmu (.d D)) (i:Int)) | o=>o) sr (by simp;omega) (fun y hy=>by
   rw[List.map_map] at hy;obtain ⟨r,hr,rfl⟩:=List.mem_map.mp hy;have lr:=sh.row r hr;have rd:=F34.rd_D (ρ:=[.d (rowD r),⇑(i:Int)]) (k:=0) (b:=1) (v:=r) (i:=(i:Int)) rfl rfl ⟨by omega,by omega⟩;refine ⟨[.d (rowD r),⇑(i:Int)],_,_,_,[.d (rowD r),⇑(i:Int)],rfl,rd, ?_,rfl⟩
   show some (O.d (oD (get r (i:Int))),_)=some (cO (get (zmu (.d (rowD r))) (i:Int)),_)
   rw[zhO,zg6])
  refine ⟨[⇑(i:Int),.d (tabD t)],_,_,_,[⇑(i:Int),.d (tabD t)],rfl,e2, ?_,rfl⟩
  show some (O.l _,_)=some (rowO (t.map fun r=>get r (i:Int)),_)
  unfold rowO
  congr 3
  rw[List.map_map,List.map_map,List.map_map];refine List.map_congr_left fun r _=>?_
  show cO (get (zmu (.d (rowD r))) (i:Int))=cO (get r (i:Int))
  rw[zhO])
 have em:∀g:O->O,(∀j:Nat,g ⇑(0+(j:Int))=rowO (t.map fun r=>get r (j:Int)))->(rngO 0 n.toNat).map g=(zhb n.toNat t).map rowO:=fun g hg=>by
  unfold zhb rngO;rw[List.map_map,List.map_map];exact List.map_congr_left fun j _=>hg j
 rw[em _ fun j=>by rw[Int.zero_add]] at e;exact ⟨q,e⟩
theorem zkW (x:Option Int):zaV [.d (oD x)]=.ok (.d (oD (x.map fun v=>0 - v))) []:=by
 cases x with
 | none=>rfl
 | some v=>exact zbn rfl (L2.zag (if_f (zaR (zau rfl rfl rfl rfl rfl rfl) rfl) rfl) (zaS (zau rfl rfl rfl rfl rfl rfl) rfl)) rfl
theorem zl6 {n p q:Int} {rs:List Road} {W:List Int} (ok:zaw n rs) (hp:0<=p/\p < n) (hq:0<=q/\q < n) (ld:zaZ rs p q W=true):zb9 [.d (netD n rs),⇑p,⇑q,zad W]=.ok (.d (.bool true)) []:=by
 have c:=zba ok hp hq;have l:=ziY (n:=n) ld;have f:=zce W;unfold zad at *;generalize netD n rs=N at *;generalize W.map (fun h=>O.d (.int h))=X at *;exact zbn rfl (L2.zag (zaW (za2 (zab rfl (zab rfl (zab rfl rfl rfl) rfl) rfl) rfl c rfl)) (zaS (za2 (zab rfl (zab rfl (zab rfl (zab rfl rfl rfl) rfl) rfl) rfl) (zbE rfl (zbE rfl (zbE rfl (zbE (zfD rfl f) rfl)))) l rfl) rfl)) rfl
theorem zoT {rs:List Road} {k:Int} {r:Road} (h:zaK rs k=some r):zaK (rs.map zcs) k=some (zcs r):=by
 obtain ⟨a,b,c⟩:=za9 h;unfold zaK;rw[if_pos ⟨a,by rw[List.length_map];exact b⟩,List.getElem?_map,c];rfl
theorem zgN {rs:List Road}:∀{W:List Int} {p q:Int},zaZ rs p q W=true->zaZ (rs.map zcs) q p W.reverse=true
 | [],p,q,h=>by
  have:p=q:=of_decide_eq_true h
  subst this;exact decide_eq_true rfl
 | k::W,p,q,h=>by
  obtain ⟨r,e,rfl,l⟩:=zgD h;rw[List.reverse_cons];exact zc7 (zgN l) (zd7 (zoT e))
section
variable {N N' S D Td lo hi lo' hi' W1 W2:PyData} {p q k:Int} {no o1 o2 rv t1 t2 f2:List O} {s:Str}
def abE:EF:=zae [false,false,false,false,false] zaB (zac (zaa 5) (zac (zaa 2) (zac (zaa 1) (zac (e1 (zaa 3) fRev) (zac (zaa 4) aNil)))))
theorem znT (tu:zbq [.d N]=.ok (.t no) []) (fn:fz (.t no)=some N') (hr:fRev (.d S)=some (.l rv)) (a1:zaB [.d N',⇑q,⇑p,.l rv,⇑k]=.ok (.l o1) []) (a2:zaB [.d N,⇑p,⇑q,.d S,⇑k]=.ok (.l o2) []) (fe:fEq true (.l o1) (.l o2)=some (.d (.bool false)))
  (e1:zaz [.d N]=.ok (.l t1) []) (ft:fz (.l t1)=some Td) (e2:zaz [.d N']=.ok (.l t2) []) (fl:∃qq,eLC (itR1 (eIx (zaa 0) ↥0)) [none,some 6] (gtN 0) (gRet true) zaH [.d N,⇑p,⇑q,.d S,⇑k,.d N',.d Td,.z,.z,.z]=.ok (.own (.l f2)) [.d N,⇑p,⇑q,.d S,⇑k,.d N',.d Td,.z,.z,.z] qq) (te:fEq true (.l t2) (.l f2)=some (.d (.bool false)))
  (w1:zaF [.d N,⇑p,⇑q]=.ok (.d (.tuple [lo,hi])) []) (w2:zaF [.d N',⇑p,⇑q]=.ok (.d (.tuple [lo',hi'])) []) (l1:zaV [.d hi]=.ok (.d lo') []) (s1:scl (.d lo')=true) (l2:zaV [.d lo]=.ok (.d hi') []) (s2:scl (.d hi')=true) (we:fEq true (.d (.tuple [lo',hi'])) (.d (.tuple [lo',hi']))=some (.d (.bool false)))
  {T:SF} {R:Rt} (rest:T [.d N,⇑p,⇑q,.d S,⇑k,.d N',.d Td,.d lo,.d hi,.z]=R) :
  (sSeq (sAsg coe (eFz (zae [false] zbq (zac (zaa 0) aNil))) (gtN 5))
  (sSeq (sIf (tst (L2.e2 abE (zae [false,false,false,false,false] zaB (zac (zaa 0) (zac (zaa 1) (zac (zaa 2) (zac (zaa 3) (zac (zaa 4) aNil)))))) (fEq true))) (sRet mov (eC (.bool false))) sNil)
  (sSeq (sAsg coe (eFz (zae [false] zaz (zac (zaa 0) aNil))) (gtN 6))
  (sSeq (sIf (tst (L2.e2 (zae [false] zaz (zac (zaa 5) aNil)) (eLC (itR1 (eIx (zaa 0) ↥0)) [none,some 6] (gtN 0) (gRet true) zaH) (fEq true))) (sRet mov (eC (.bool false))) sNil)
  (sSeq (sAsg coe (zae [false,false,false] zaF (zac (zaa 0) (zac (zaa 1) (zac (zaa 2) aNil)))) (gtT (zah (gtN 7) (zah (gtN 8) zbl))))
  (sSeq (sIf (tst (L2.e2 (zae [false,false,false] zaF (zac (zaa 5) (zac (zaa 1) (zac (zaa 2) aNil)))) (zay coes mkT (zac (zae [false] zaV (zac (zaa 8) aNil)) (zac (zae [false] zaV (zac (zaa 7) aNil)) aNil))) (fEq true))) (sRet mov (eC (.bool false))) sNil) T)))))) [.d N,⇑p,⇑q,.d S,⇑k,.z,.z,.z,.z,.z]=R:=by
 obtain ⟨qq,fl⟩:=fl;have b1:(sAsg coe (eFz (zae [false] zbq (zac (zaa 0) aNil))) (gtN 5)) [.d N,⇑p,⇑q,.d S,⇑k,.z,.z,.z,.z,.z]=.nx [.d N,⇑p,⇑q,.d S,⇑k,.d N',.z,.z,.z,.z]:=
  zao (zc8 (zas (zab rfl rfl rfl) rfl tu rfl rfl) fn) rfl rfl
 have b2:(sIf (tst (L2.e2 abE (zae [false,false,false,false,false] zaB (zac (zaa 0) (zac (zaa 1) (zac (zaa 2) (zac (zaa 3) (zac (zaa 4) aNil)))))) (fEq true))) (sRet mov (eC (.bool false))) sNil) [.d N,⇑p,⇑q,.d S,⇑k,.d N',.z,.z,.z,.z]=.nx [.d N,⇑p,⇑q,.d S,⇑k,.d N',.z,.z,.z,.z]:=
  if_f (zaR (zau (zas (zab rfl (zab rfl (zab rfl (zab (zmN rfl rfl hr) (zab rfl rfl rfl) rfl) rfl) rfl) rfl) rfl a1 rfl rfl) (zas (zab rfl (zab rfl (zab rfl (zab rfl (zab rfl rfl rfl) rfl) rfl) rfl) rfl) rfl a2 rfl rfl) rfl rfl rfl fe) rfl) rfl
 have b3:(sAsg coe (eFz (zae [false] zaz (zac (zaa 0) aNil))) (gtN 6)) [.d N,⇑p,⇑q,.d S,⇑k,.d N',.z,.z,.z,.z]=.nx [.d N,⇑p,⇑q,.d S,⇑k,.d N',.d Td,.z,.z,.z]:=
  zao (zc8 (zas (zab rfl rfl rfl) rfl e1 rfl rfl) ft) rfl rfl
 have b4:(sIf (tst (L2.e2 (zae [false] zaz (zac (zaa 5) aNil)) (eLC (itR1 (eIx (zaa 0) ↥0)) [none,some 6] (gtN 0) (gRet true) zaH) (fEq true))) (sRet mov (eC (.bool false))) sNil) [.d N,⇑p,⇑q,.d S,⇑k,.d N',.d Td,.z,.z,.z]=.nx [.d N,⇑p,⇑q,.d S,⇑k,.d N',.d Td,.z,.z,.z]:=
  if_f (zaR (zau (zas (zab rfl rfl rfl) rfl e2 rfl rfl) fl rfl rfl rfl te) rfl) rfl
 have b5:(sAsg coe (zae [false,false,false] zaF (zac (zaa 0) (zac (zaa 1) (zac (zaa 2) aNil)))) (gtT (zah (gtN 7) (zah (gtN 8) zbl)))) [.d N,⇑p,⇑q,.d S,⇑k,.d N',.d Td,.z,.z,.z]=.nx [.d N,⇑p,⇑q,.d S,⇑k,.d N',.d Td,.d lo,.d hi,.z]:=
  zao (zas (zab rfl (zab rfl (zab rfl rfl rfl) rfl) rfl) rfl w1 rfl rfl) rfl rfl
 have b6:(sIf (tst (L2.e2 (zae [false,false,false] zaF (zac (zaa 5) (zac (zaa 1) (zac (zaa 2) aNil)))) (zay coes mkT (zac (zae [false] zaV (zac (zaa 8) aNil)) (zac (zae [false] zaV (zac (zaa 7) aNil)) aNil))) (fEq true))) (sRet mov (eC (.bool false))) sNil) [.d N,⇑p,⇑q,.d S,⇑k,.d N',.d Td,.d lo,.d hi,.z]=.nx [.d N,⇑p,⇑q,.d S,⇑k,.d N',.d Td,.d lo,.d hi,.z]:=
  if_f (zaR (zau (zas (zab rfl (zab rfl (zab rfl rfl rfl) rfl) rfl) rfl w2 rfl rfl) (zax (zab (za2 (zab rfl rfl rfl) rfl l1 (by simp[s1])) (zab (za2 (zab rfl rfl rfl) rfl l2 (by simp[s2])) rfl rfl) rfl) rfl (nlq rfl) rfl) rfl rfl rfl we) rfl) rfl
 exact L2.zag b1 (L2.zag b2 (L2.zag b3 (L2.zag b4 (L2.zag b5 (L2.zag b6 rest)))))
theorem zot {z5 z6 z7 z8:O} {x:PyData} {od:List O} (le:zaP [.d N,⇑p,⇑q]=.ok (.t od) []) (fo:fz (.t od)=some (.tuple [.str "none",x])):∃ρ',
  (sSeq (sAsg coe (eFz (zae [false,false,false] zaP (zac (zaa 0) (zac (zaa 1) (zac (zaa 2) aNil))))) (gtN 9))
  (sRet coe (eOr (L2.e2 (eIx (zaa 9) ↥0) (eC (.str "none")) (fEq false)) (zae [false,false,false,false] zb9 (zac (zaa 5) (zac (zaa 2) (zac (zaa 1) (zac (e1 (eIx (zaa 9) ↥1) fRev) aNil)))))))) [.d N,⇑p,⇑q,.d S,⇑k,z5,z6,z7,z8,.z]=.rt (.d (.bool true)) ρ':=by
 have e:=zcT;exact ⟨_,L2.zag (zao (zc8 (zas (zab rfl (zab rfl (zab rfl rfl rfl) rfl) rfl) rfl le rfl rfl) fo) rfl rfl) (zaS (ztG (zaD (zau (za6 rfl (zaD rfl rfl rfl) rfl rfl) rfl rfl rfl rfl e) rfl rfl)) rfl)⟩
theorem zqz {z6 z7 z8:O} {x W:PyData} {od:List O} (le:zaP [.d N,⇑p,⇑q]=.ok (.t od) []) (fo:fz (.t od)=some (.tuple [.str "way",W,x])) (hr:fRev (.d W)=some (.l rv)) (iw:zb9 [.d N',⇑q,⇑p,.l rv]=.ok (.d (.bool true)) []):∃ρ',
  (sSeq (sAsg coe (eFz (zae [false,false,false] zaP (zac (zaa 0) (zac (zaa 1) (zac (zaa 2) aNil))))) (gtN 9))
  (sRet coe (eOr (L2.e2 (eIx (zaa 9) ↥0) (eC (.str "none")) (fEq false)) (zae [false,false,false,false] zb9 (zac (zaa 5) (zac (zaa 2) (zac (zaa 1) (zac (e1 (eIx (zaa 9) ↥1) fRev) aNil)))))))) [.d N,⇑p,⇑q,.d S,⇑k,.d N',z6,z7,z8,.z]=.rt (.d (.bool true)) ρ':=by
 have e:=zdp;exact ⟨_,L2.zag (zao (zc8 (zas (zab rfl (zab rfl (zab rfl rfl rfl) rfl) rfl) rfl le rfl rfl) fo) rfl rfl) (zaS (ztE (zaD (zau (za6 rfl (zaD rfl rfl rfl) rfl rfl) rfl rfl rfl rfl e) rfl rfl) (zaD (za2 (zab rfl (zab rfl (zab rfl (zab (zmN (za6 rfl (zaD rfl rfl rfl) rfl rfl) rfl hr) rfl rfl) rfl) rfl) rfl) rfl iw rfl) rfl rfl)) rfl)⟩
end
theorem zty (ρ:Rho):zcx [false,false,false,false,false] ρ=[]:=by
 rcases ρ with _ | ⟨a,_ | ⟨b,_ | ⟨c,_ | ⟨d,_ | ⟨e,r⟩⟩⟩⟩⟩<;>simp[zcx]
theorem zlL (a b:Option Int):Lay 1 (.tuple [oD a,oD b]):=Lay.tuple fun d hd=>by
 simp only[List.mem_cons,List.not_mem_nil,or_false] at hd;rcases hd with rfl | rfl
 .exact zft _
 .exact zft _
theorem zfQ {n:Int} {rs:List Road} {j:Nat} {ρ:Rho} (h:ρ[j]? = some (.d (netD n rs))):eIx (zaa j) ↥0 ρ=.ok (.own ⇑n) ρ true:=za6 (q1:=true) (q2:=true) (F24.zer h) (zaD rfl rfl rfl) rfl (F43.zrN h)
theorem ziV {n p q:Int} {rs:List Road} (ok:zaw n rs) (T:Taut rs) (hp:0<=p/\p < n) (hq:0<=q/\q < n):zaF [.d (netD n rs),⇑p,⇑q]=.ok (.d (.tuple [oD ((cel n rs q p).map fun x=>-x),oD (cel n rs p q)])) []:=zlC ⟨ok,by omega,T⟩ hp hq
theorem zm2 {n p q k c d:Int} {rs:List Road} (ok:zaw n rs) (T:Taut rs) (hp:0<=p/\p < n) (hq:0<=q/\q < n) (k0:0<=k) (k1:k<=60) (hc:0<=c/\c < n) (hd:0<=d/\d < n) :
  za4 [.d (netD n rs),⇑p,⇑q,.d (zal [p,c,d,q]),⇑k]=.ok (.d (.bool true)) []:=by
 have ok':=zf8 ok;have T':=zig T;have hS:∀s∈[p,c,d,q],0<=s/\s < n:=fun s hs=>by
  simp only[List.mem_cons,List.not_mem_nil,or_false] at hs;rcases hs with rfl | rfl | rfl | rfl<;>assumption
 have hS':∀s∈[q,d,c,p],0<=s/\s < n:=fun s hs=>by
  simp only[List.mem_cons,List.not_mem_nil,or_false] at hs;rcases hs with rfl | rfl | rfl | rfl<;>assumption
 have tu:=zkT (n:=n) (rs:=rs) ok.len;have fn:=zjB n (rs.map zcs);have rv:fRev (.d (zal [p,c,d,q]))=some (zad [q,d,c,p]):=znC _;obtain ⟨o1,a1,z1⟩:=zji (S:=[q,d,c,p]) (k:=k) ok' T' hq hp k0 k1 hS' (by simp) (by simp) (.inr rfl);obtain ⟨o2,a2,z2⟩:=zji (S:=[p,c,d,q]) (k:=k) ok T hp hq k0 k1 hS (by simp) (by simp) (.inl rfl);have ea:=zhN (k:=k) (zkn ok T hp hq) (zkO ok T hp hc hd hq);rw[ea] at z1;have ly:=zjw n rs p q [p,c,d,q] k;have fe:=zeR z1 z2 ly.shaped (zdo _ ly.1) true;have e1:=zdE ok T;have ft:=zh8 (zaq n.toNat rs);have e2:=zdE ok' T';have te:=zm1 (zaq n.toNat (rs.map zcs));have fl:∃qq,eLC (itR1 (eIx (zaa 0) ↥0)) [none,some 6] (gtN 0) (gRet true) zaH [.d (netD n rs),⇑p,⇑q,.d (zal [p,c,d,q]),⇑k,.d (netD n (rs.map zcs)),.d (tabD (zaq n.toNat rs)),.z,.z,.z]=.ok (.own (tabO (zaq n.toNat (rs.map zcs)))) [.d (netD n rs),⇑p,⇑q,.d (zal [p,c,d,q]),⇑k,.d (netD n (rs.map zcs)),.d (tabD (zaq n.toNat rs)),.z,.z,.z] qq:=by
  have:=zpm (w0:=.d (netD n rs)) (w1:=⇑p) (w2:=⇑q) (w3:=.d (zal [p,c,d,q])) (w4:=⇑k) (w5:=.d (netD n (rs.map zcs))) (w7:=.z) (w8:=.z) (w9:=.z) ok.n0 ok.n1 (zcV n.toNat rs) fun ρ h=>zfQ h
  rw[zjZ ok T] at this;exact this
 have w1:=ziV ok T hp hq;have w2:=ziV ok' T' hp hq;rw[zcB ok T hp hq,zcB ok T hq hp] at w2;have l1:=zkW (cel n rs p q);have l2:=zkW ((cel n rs q p).map fun x=>-x);have m1:((cel n rs p q).map fun v=>0 - v)=(cel n rs p q).map fun x=>-x:=by
  cases cel n rs p q with
  | none=>rfl
  | some v=>exact congrArg some (by show 0 - v=-v;omega)
 have m2:(((cel n rs q p).map fun x=>-x).map fun v=>0 - v)=cel n rs q p:=by
  cases cel n rs q p with
  | none=>rfl
  | some v=>exact congrArg some (by show 0 - -v=v;omega)
 rw[m1] at l1;rw[m2] at l2;have ly2:=zlL ((cel n rs p q).map fun x=>-x) (cel n rs q p);have we:=zeR (fz_d _) (fz_d _) ly2.shaped (zdo _ ly2.1) true;have fin:∀{o:O} {ρ':Rho},zcH [.d (netD n rs),⇑p,⇑q,.d (zal [p,c,d,q]),⇑k,.z,.z,.z,.z,.z]=.rt o ρ'->za4 [.d (netD n rs),⇑p,⇑q,.d (zal [p,c,d,q]),⇑k]=.ok o []:=fun {o ρ'} h=>zbn (n:=10) rfl h (zty ρ')
 rcases ziT ok T hp hq with ⟨no,R,le,_⟩ | ⟨W,hs,le,lw⟩
 .obtain ⟨ρ',h⟩:=zot (S:=zal [p,c,d,q]) (k:=k) (z5:=.d (netD n (rs.map zcs))) (z6:=.d (tabD (zaq n.toNat rs))) (z7:=.d (oD ((cel n rs q p).map fun x=>-x))) (z8:=.d (oD (cel n rs p q))) le (zir (zce _));exact fin (znT tu fn rv a1 a2 fe e1 ft e2 fl te w1 w2 l1 (F30.zfj _) l2 (F30.zfj _) we h)
 .have iw:=zl6 ok' hq hp (zgN lw.ld);obtain ⟨ρ',h⟩:=zqz (S:=zal [p,c,d,q]) (k:=k) (z6:=.d (tabD (zaq n.toNat rs))) (z7:=.d (oD ((cel n rs q p).map fun x=>-x))) (z8:=.d (oD (cel n rs p q))) le (F32.zl3 _ _ _) (znC _) iw;exact fin (znT tu fn rv a1 a2 fe e1 ft e2 fl te w1 w2 l1 (F30.zfj _) l2 (F30.zfj _) we h)
end F42
namespace F42
theorem zm6 {ρ:Rho} {k:Nat} {os:List O} {i:Int} {j:Nat} {x:PyData} (h:ρ[k]? = some (.l os)) (hl:os.length<=sizeLine) (hj:ixN os.length i=some j) (hx:os[j]? = some (.d x)):ziQ ρ (.at k []) i=some (x,ρ.set k (.l (os.eraseIdx j))):=by
 have e:vn ρ (.at k [])=some (.l os):=by simp[vn,vw,h,sub]
 have pu:zdG ρ (.at k []) (fun us=>some (us.eraseIdx j))=some (ρ.set k (.l (os.eraseIdx j))):=by unfold L2.zdG;simp[h,sub,L2.put]
 unfold ziQ;rw[e];dsimp only;rw[if_pos hl,hj];dsimp only;rw[hx];dsimp only;rw[pu]
theorem zoD {C B:EF} {ρ ρ1 ρ2 ρ3:Rho} {rc rb:Rv} {q1 q2:Bool} {i:Int} {x:PyData} (h:C ρ=.ok rc ρ1 q1) (l:isL ρ1 rc=true) (k:B ρ1=.ok rb ρ2 q2) (p:pok ρ1 q2 rc=true) (hv:vn ρ2 rb=some ⇑i) (hp:ziQ ρ2 rc i=some (x,ρ3)):zj5 C B ρ=.ok (.own (.d x)) ρ3 false:=by
 unfold zj5;rw[h];dsimp only[Re.bind];rw[if_pos l,k];dsimp only[Re.bind];rw[if_pos p,hv];dsimp only;rw[hp]
theorem zjX (L:List Int) (j:Nat):(L.map fun h=>O.d (.int h)).eraseIdx j=(L.eraseIdx j).map fun h=>O.d (.int h):=by
 induction L generalizing j with
 | nil=>rfl
 | cons a L ih=>
  cases j with
  | zero=>rfl
  | succ j=>
   show O.d (.int a)::(L.map fun h=>O.d (.int h)).eraseIdx j=_
   rw[ih];rfl
theorem znz (L:List Int):fEq true (zad L) (.l [])=some (.d (.bool (decide (L≠[])))):=by
 have s1:=zfT L;have s2:SeqAt.shaped (.list [])=true:=by decide +kernel
 have f:=zce L;unfold fEq;rw[f]
 show (if (SeqAt.shaped _&&SeqAt.shaped (.list []))=true then some (O.d (.bool (!PyData.eqv (.list (L.map PyData.int)) (.list [])))) else none)=_
 rw[s1,s2,zps]
 show some _=_
 cases L<;>simp
theorem zk0 {p w1:O} {m:Int} {L F:List Int} (hp:PuOk p m) (hm:m<=1125899906842624) (h0:L≠[]) (hl:L.length<=100) (hf:F.length<=100) :
  ∃p' x j,L[j]? = some x/\zbU [p,w1,zad L,zad F]=.nx [p',w1,zad (L.eraseIdx j),zad (F++[x])]/\PuOk p' (m+4):=by
 have hz:0 < L.length:=List.length_pos_iff.mpr h0;have ln:(100:Nat) < sizeLine:=by decide
 obtain ⟨r,p',dr,r0,r1,hp'⟩:=zbX (n:=(L.length:Int)) hp ∅ ∅ ∅;obtain ⟨a,b,c,rfl⟩:=hp.sh;obtain ⟨a',b',c',rfl⟩:=hp'.sh;have hr:r.toNat < L.length:=by omega
 have ix:ixN L.length r=some r.toNat:=zcX ⟨r0,r1⟩;refine ⟨_,L[r.toNat],r.toNat,List.getElem?_eq_getElem hr, ?_,hp'⟩;have el:f1 fLen [zad L]=some ⇑(L.length:Int):=by
  unfold zad;simp[f1,fLen,els]
 have e3:zad (F++[L[r.toNat]])=.l ((F.map fun h=>O.d (.int h))++[⇑(L[r.toNat])]):=by
  unfold zad;simp
 have e2:zad (L.eraseIdx r.toNat)=.l ((L.map fun h=>O.d (.int h)).eraseIdx r.toNat):=by
  unfold zad;rw[zjX]
 have hx:(L.map fun h=>O.d (.int h))[r.toNat]? = some ⇑(L[r.toNat]):=by
  rw[List.getElem?_map,List.getElem?_eq_getElem hr];rfl
 have lL:(L.map fun h=>O.d (.int h)).length=L.length:=List.length_map _;have lF:(F.map fun h=>O.d (.int h)).length=F.length:=List.length_map _;rw[e3,e2];unfold zad at *;generalize L[r.toNat]=x at *;generalize (L.map fun h=>O.d (.int h))=LL at *;generalize (F.map fun h=>O.d (.int h))=FF at *;have pt:=zm6 (ρ:=[.l [⇑a',⇑b',⇑c'],w1,.l LL,.l FF]) (k:=2) rfl ∅ (by rw[lL];exact ix) hx;exact zaW (zdZ rfl rfl (zoD rfl rfl (zas (zab rfl (zab (zfl (zab rfl rfl rfl) rfl el) rfl rfl) rfl) rfl dr rfl rfl) rfl rfl pt) rfl rfl (zbQ (xs:=FF) rfl ∅))
theorem zfe (w1:O) (m:Nat):∀(L F:List Int) (p:O) (M:Int),L.length=m->PuOk p M->M+4 * (m:Int)<=1125899906842624->m+F.length<=100->
  ∃p' G,zbw zbv zbU (m+1) [p,w1,zad L,zad F]=.nx [p',w1,zad [],zad G]/\G.Perm (F++L)/\PuOk p' (M+4 * (m:Int)):=by
 induction m with
 | zero=>
  intro L F p M hm hp hM hl
  have:L=[]:=List.length_eq_zero_iff.mp hm
  subst this;refine ⟨p,F, ?_,by rw[List.append_nil],hp.mono ∅⟩;have t:zbv [p,w1,zad [],zad F]=.ok false [p,w1,zad [],zad F] true:=
   zaR (zau (q1:=true) (q2:=true) rfl rfl rfl rfl rfl (by have:=znz [];simpa using this)) rfl
  rw[zbw,t]
 | succ m zfe=>
  intro L F p M hm hp hM hl;have h0:L≠[]:=fun z=>by rw[z] at hm;cases hm
  have t:zbv [p,w1,zad L,zad F]=.ok true [p,w1,zad L,zad F] true:=
   zaR (zau (q1:=true) (q2:=true) rfl rfl rfl rfl rfl (by have:=znz L;simpa [h0] using this)) rfl
  obtain ⟨p1,x,j,hx,st,hp1⟩:=zk0 (w1:=w1) (F:=F) hp ∅ h0 ∅ ∅;have hj:j < L.length:=(List.getElem?_eq_some_iff.mp hx).1;have le:(L.eraseIdx j).length=m:=by rw[List.length_eraseIdx_of_lt hj];omega
  obtain ⟨p2,G,e,g1,g2⟩:=zfe (L.eraseIdx j) (F++[x]) p1 (M+4) le hp1 ∅ (by rw[List.length_append];simp;omega);refine ⟨p2,G, ?_, ?_,g2.mono ∅⟩
  .rw[zbw,t];dsimp only;rw[st];exact e
  .refine g1.trans ?_;rw[List.append_assoc];refine List.Perm.append_left F ?_;have hx':x=L[j]:=by
    rw[List.getElem?_eq_getElem hj] at hx;exact (Option.some.inj hx).symm
   rw[hx',List.eraseIdx_eq_take_drop_succ];have e1:L=L.take j++L[j]::L.drop (j+1):=by
    rw[<-List.drop_eq_getElem_cons hj,List.take_append_drop]
   exact ((List.perm_middle (a:=L[j]) (l₁:=L.take j) (l₂:=L.drop (j+1))).symm.trans (.of_eq e1.symm))
theorem zmI {p:O} {M:Int} {L:List Int} (hp:PuOk p M) (hM:M<=1125899906000000) (hl:L.length<=100):∃p' G,zbP [p,zad L]=.ok (zad G) [p']/\G.Perm L/\PuOk p' (M+400):=by
 obtain ⟨p',G,e,g1,g2⟩:=zfe (zad L) L.length L [] p M rfl hp ∅ (by simp;omega);refine ⟨p',G, ?_,by simpa using g1,g2.mono ∅⟩;have w:=zf9 e (fun z=>by cases z);obtain ⟨a,b,c,rfl⟩:=hp.sh;have fl:f1 zgy [zad L]=some (zad L):=by
  have e1:zad L=.l ((L.map PyData.int).map O.d):=by unfold zad;rw[List.map_map];rfl
  rw[e1];simp only[f1,zgy,els,zeE]
 have w':zdz zbv zbU [.l [⇑a,⇑b,⇑c],zad L,zad L,.l []]=.nx [p',zad L,zad [],zad G]:=w;unfold zad at *;generalize (L.map fun h=>O.d (.int h))=LL at *;generalize (G.map fun h=>O.d (.int h))=GG at *;exact zbn rfl (L2.zag (zao (zfl (zab rfl rfl rfl) rfl fl) rfl rfl) (L2.zag (zao (zax rfl rfl (nlq rfl) rfl) rfl rfl) (L2.zag w' (zaS rfl rfl)))) rfl
open Classical in
theorem zpp {G:List Int} {n:Int} (n0:0<=n) (h:G.Perm ((List.range n.toNat).map fun i:Nat=>(i:Int))):G.length=n.toNat/\∃g,Perm n (hgt G) g/\∀y,0<=y/\y < n->∃x,(0<=x/\x < n)/\hgt G x=y:=by
 have hl:G.length=n.toNat:=by rw[h.length_eq];simp
 have mem:∀y,y∈G↔0<=y/\y < n:=fun y=>by
  rw[h.mem_iff,List.mem_map];constructor
  .rintro ⟨i,hi,rfl⟩
   have:=List.mem_range.mp hi
   omega
  .rintro ⟨a,b⟩
   exact ⟨y.toNat,List.mem_range.mpr ∅,by omega⟩
 have nd:G.Pairwise (·≠·):=by
  have:((List.range n.toNat).map fun i:Nat=>(i:Int)).Pairwise (·≠·):=by
   rw[List.pairwise_map];exact (List.nodup_range (n:=n.toNat)).imp fun {a b} hab z=>hab ∅
  exact (h.symm.pairwise_iff fun {a b} hab=>hab.symm).mp this
 have get:∀x,0<=x/\x < n->∃hx:x.toNat < G.length,hgt G x=G[x.toNat]:=fun x hx=>by
  have hz:x.toNat < G.length:=by omega
  refine ⟨hz, ?_⟩;unfold hgt;rw[List.getD_eq_getElem?_getD,List.getElem?_eq_getElem hz];rfl
 have inj:∀x y,0<=x/\x < n->0<=y/\y < n->hgt G x=hgt G y->x=y:=fun x y hx hy e=>by
  obtain ⟨x1,x2⟩:=get x hx;obtain ⟨y1,y2⟩:=get y hy;rw[x2,y2] at e;have pw:=List.pairwise_iff_getElem.mp nd;rcases Nat.lt_trichotomy x.toNat y.toNat with z | z | z
  .exact absurd e (pw _ _ x1 y1 z)
  .omega
  .exact absurd e.symm (pw _ _ y1 x1 z)
 have onto:∀y,0<=y/\y < n->∃x,(0<=x/\x < n)/\hgt G x=y:=fun y hy=>by
  obtain ⟨i,hi,e⟩:=List.mem_iff_getElem.mp ((mem y).mpr hy);have hx:(0:Int)<=(i:Int)/\(i:Int) < n:=by omega
  obtain ⟨x1,x2⟩:=get i hx;refine ⟨i,hx,x2.trans ?_⟩;simpa using e
 refine ⟨hl,fun y=>if h:∃x,(0<=x/\x < n)/\hgt G x=y then h.choose else 0,⟨fun x hx=>?_,fun x hx=>?_⟩,onto⟩
 .obtain ⟨x1,x2⟩:=get x hx;rw[x2];exact (mem _).mp (List.getElem_mem x1)
 .have ex:∃z,(0<=z/\z < n)/\hgt G z=hgt G x:=⟨x,hx,rfl⟩
  show (if h:∃z,(0<=z/\z < n)/\hgt G z=hgt G x then h.choose else 0)=x
  rw[dif_pos ex];exact inj _ _ ex.choose_spec.1 hx ex.choose_spec.2
open F30 (cel detL zaA za5 zbo detE detD detO)
open F29 (za7 up)
open F32 (IsO zdB onO zcA zb4 zcJ)
open F34 (WkN get gone zcz)
theorem zke {ρ:Rho} {k:Nat} {G:List Int} {B:EF} {i:Int} {q:Bool} (hk:ρ[k]? = some (.d (zal G))) (hB:eSc decI B ρ=.ok i ρ q) (hi:0<=i/\i < G.length):eIx (zaa k) B ρ=.ok (.own ⇑(hgt G i)) ρ (true&&q):=by
 have h2:i.toNat < G.length:=by omega
 have g:gIx ρ (.at k []) i=some (.own ⇑(hgt G i)):=by
  refine zgf (j:=i.toNat) hk (zcX ⟨hi.1,by simpa using hi.2⟩) ?_;rw[List.getElem?_map,List.getElem?_eq_getElem h2];unfold hgt;rw[List.getD_eq_getElem?_getD,List.getElem?_eq_getElem h2];rfl
 exact za6 (q1:=true) (F24.zer hk) hB rfl g
variable {n p q:Int} {rs:List Road} {G:List Int}
def numO (G:List Int):O->O
 | .d (.tuple [.int a,.int b,.int l])=>.d (zar (hgt G a,hgt G b,l))
 | o=>o
theorem zmO {ρ:Rho} {k j:Nat} (hρ:ρ[k]? = some (.d (netD n rs))) (hj:ρ[j]? = some (.d (zal G))) (hb:zcy [none,some j] [.z,.d (zal G)] (clrR [none,some j] ρ)=ρ) (ok:zaw n rs) (hG:G.length=n.toNat) :
  ∃q,eLS (srcM true (fun ds=>ds.map O.d) (eIx (zaa k) ↥1)) [none,some j] (gtN 0) (gRet true) zaN ρ=.ok (.own (zbA (rs.map (numR (hgt G))))) ρ q:=by
 have hl:=ok.len;obtain ⟨q,e⟩:=zi6 (js:=[none,some j]) (G:=gtN 0) (A:=zaN) (numO G) (zhL (view:=true) hρ) (by simp;omega) (fun x hx=>by
  rw[List.map_map] at hx;obtain ⟨r,hr,rfl⟩:=List.mem_map.mp hx;obtain ⟨a,b,_⟩:=ok.rd r hr;have e1:=zke (ρ:=[.d (zar r),.d (zal G)]) (k:=1) (B:=eIx (zaa 0) ↥0) (i:=r.1) rfl (zaD (za6 rfl (zaD rfl rfl rfl) rfl rfl) rfl rfl) ⟨a.1,by omega⟩;have e2:=zke (ρ:=[.d (zar r),.d (zal G)]) (k:=1) (B:=eIx (zaa 0) ↥1) (i:=r.2.1) rfl (zaD (za6 rfl (zaD rfl rfl rfl) rfl rfl) rfl rfl) ⟨b.1,by omega⟩;have pk:zdi [none,some j] ρ=[.z,.d (zal G)]:=by
   simp[zdi,hj]
  rw[pk];refine ⟨[.d (zar r),.d (zal G)],.own (.d (zar (numR (hgt G) r))),_,_,[.d (zar r),.d (zal G)],rfl,zax (zab e1 (zab e2 (zab (za6 rfl (zaD rfl rfl rfl) rfl rfl) rfl rfl) rfl) rfl) rfl (nlq rfl) rfl,rfl, ?_⟩;exact hb)
 have em:(((rs.map zar).map O.d).map (numO G))=(rs.map (numR (hgt G))).map fun r=>O.d (zar r):=by
  rw[List.map_map,List.map_map,List.map_map];exact List.map_congr_left fun r _=>rfl
 rw[em] at e;exact ⟨q,e⟩
theorem zkg {ρ:Rho} {k j:Nat} {S:List Int} (hρ:ρ[k]? = some (.d (zal S))) (hj:ρ[j]? = some (.d (zal G))) (hb:zcy [none,some j] [.z,.d (zal G)] (clrR [none,some j] ρ)=ρ) (hS:∀s∈S,0<=s/\s < n) (hl:S.length<=100) (hG:G.length=n.toNat) :
  ∃q,eLS (srcM true (fun ds=>ds.map O.d) (zaa k)) [none,some j] (gtN 0) (gRet true) zaQ ρ=.ok (.own (zad (S.map (hgt G)))) ρ q:=by
 have sr:srcM true (fun ds=>ds.map O.d) (zaa k) ρ=.ok (((S.map PyData.int).map O.d,none),true) ρ true:=F24.znZ hρ;obtain ⟨q,e⟩:=zi6 (js:=[none,some j]) (G:=gtN 0) (A:=zaQ) (fun o=>match o with | ⇑s=>⇑(hgt G s) | o=>o) sr (by simp;omega) (fun x hx=>by
  rw[List.map_map] at hx;obtain ⟨s,hs,rfl⟩:=List.mem_map.mp hx;obtain ⟨a,b⟩:=hS s hs;have e1:=zke (ρ:=[⇑s,.d (zal G)]) (k:=1) (B:=zaa 0) (i:=s) rfl (zaD rfl rfl rfl) ⟨a,by omega⟩;have pk:zdi [none,some j] ρ=[.z,.d (zal G)]:=by
   simp[zdi,hj]
  rw[pk];exact ⟨[⇑s,.d (zal G)],_,_,_,[⇑s,.d (zal G)],rfl,e1,rfl,hb⟩)
 refine ⟨q,e.trans ?_⟩
 congr 2
 unfold zad
 congr 1
 rw[List.map_map,List.map_map,List.map_map];exact List.map_congr_left fun r _=>rfl
theorem zna {ρ:Rho} {t:Tab} {n:Int} {near:Int} {r:List (Option Int)} (n0:0<=n) (n1:n<=20) (hG:G.length=n.toNat) (gt:∀x,0<=x/\x < n->0<=hgt G x/\hgt G x < n) (sh:Shape n.toNat t) (hn:0<=near/\near < n) (g0:eIx (zaa 1) ↥0 ρ=.ok (.own ⇑n) ρ true)
  (pk:zdi [none,some 9,some 6,some 10] ρ=[.z,.d (tabD t),.d (zal G),⇑near]) (hb:zcy [none,some 9,some 6,some 10] [.z,.d (tabD t),.d (zal G),⇑near] (clrR [none,some 9,some 6,some 10] ρ)=ρ) (hr:r=(List.range n.toNat).map fun j:Nat=>cell t (hgt G near).toNat (hgt G j).toNat) :
  ∃q,eLC (itR1 (eIx (zaa 1) ↥0)) [none,some 9,some 6,some 10] (gtN 0) (gRet true) zbs ρ=.ok (.own (rowO r)) ρ q:=by
 subst hr;have it:itR1 (eIx (zaa 1) ↥0) ρ=.ok (rngO 0 n.toNat) ρ true:=zfx (zaD g0 rfl rfl) (zdD ∅ ∅) rfl;obtain ⟨q,e⟩:=znF (js:=[none,some 9,some 6,some 10]) (G:=gtN 0) (A:=zbs) (fun o=>match o with | ⇑j=>cO (cell t (hgt G near).toNat (hgt G j).toNat) | o=>o) it (by simp;omega) (fun x hx=>by
  obtain ⟨i,hi,rfl⟩:=List.mem_map.mp hx;have hi:=List.mem_range.mp hi;rw[Int.zero_add,pk];obtain ⟨f0,f1⟩:=gt near hn;obtain ⟨h0,h1⟩:=gt (i:Int) ∅;obtain ⟨r,e1,e2,_⟩:=sh.at (i:=(hgt G near).toNat) (j:=(hgt G (i:Int)).toNat) ∅ ∅;have l1:=sh.len;have l2:=sh.row r (List.mem_of_getElem? e1);have a1:=zke (ρ:=[⇑(i:Int),.d (tabD t),.d (zal G),⇑near]) (k:=2) (B:=zaa 3) (i:=near) rfl (zaD rfl rfl rfl) ⟨hn.1,by omega⟩;have a2:=zke (ρ:=[⇑(i:Int),.d (tabD t),.d (zal G),⇑near]) (k:=2) (B:=zaa 0) (i:=(i:Int)) rfl (zaD rfl rfl rfl) ⟨by omega,by omega⟩;have g1:gIx [⇑(i:Int),.d (tabD t),.d (zal G),⇑near] (.at 1 []) (hgt G near)=some (.own (.d (rowD r))):=by
   refine zgf (j:=(hgt G near).toNat) rfl (zcX ⟨f0,by simp only[List.length_map];omega⟩) ?_;rw[List.getElem?_map,e1];rfl
  have g2:gIx [⇑(i:Int),.d (tabD t),.d (zal G),⇑near] (.own (.d (rowD r))) (hgt G (i:Int))=some (.own (.d (oD (cell t (hgt G near).toNat (hgt G (i:Int)).toNat)))):=by
   rw[zcq];have ix:ixN (r.map optD).length (hgt G (i:Int))=some (hgt G (i:Int)).toNat:=zcX ⟨h0,by simp only[List.length_map];omega⟩;simp[els,rowD,zhP] at ix ⊢;simp[ix,e2,zeD]
  refine ⟨[⇑(i:Int),.d (tabD t),.d (zal G),⇑near],_,_,_,[⇑(i:Int),.d (tabD t),.d (zal G),⇑near],rfl,za6 (za6 (q1:=true) rfl (zaD a1 rfl rfl) rfl g1) (zaD a2 rfl rfl) rfl g2, ?_,hb⟩
  show some (O.d (oD (cell t (hgt G near).toNat (hgt G (i:Int)).toNat)),_)=some (cO (cell t (hgt G near).toNat (hgt G (i:Int)).toNat),_)
  rw[zg6])
 refine ⟨q,e.trans ?_⟩;have em:∀g:O->O,(∀j:Nat,g ⇑(0+(j:Int))=cO (cell t (hgt G near).toNat (hgt G (j:Int)).toNat))->(rngO 0 n.toNat).map g=((List.range n.toNat).map fun j:Nat=>cell t (hgt G near).toNat (hgt G j).toNat).map cO:=fun g hg=>by
  unfold rngO;rw[List.map_map,List.map_map];exact List.map_congr_left fun j _=>hg j
 rw[em _ fun j=>by rw[Int.zero_add]];rfl
end F42
namespace F42
open F30 (cel detL zaA za5 zbo detE detD detO)
open F29 (za7 up)
open F32 (IsO zdB onO zcA zb4 zcJ)
open F34 (WkN get gone zcz)
theorem zmj {n:Int} (n0:0<=n) (n1:n<=20):f1 zgP [.g (.rng 0 n)]=some (zad ((List.range n.toNat).map fun i:Nat=>(i:Int))):=by
 have:zad ((List.range n.toNat).map fun i:Nat=>(i:Int))=.l ((List.range n.toNat).map fun i:Nat=>⇑(0+i)):=by
  unfold zad;rw[List.map_map]
  congr 1
  exact List.map_congr_left fun i _=>by show O.d (.int (i:Int))=_;rw[Int.zero_add]
 rw[this]
 show (if (0:Int)=0/\0<=n/\n<=1000 then some (O.l ((List.range n.toNat).map fun i:Nat=>⇑(0+i))) else none)=_
 rw[if_pos ⟨rfl,n0,by omega⟩]
section
variable {N N' S Gd Td Te W:PyData} {p q k a b n:Int} {w0:O} {go no o1 o2 sf t1 t2 P0 P1:List O}
theorem zsf (g0:∀ρ:Rho,ρ[1]? = some (.d N)->eIx (zaa 1) ↥0 ρ=.ok (.own ⇑n) ρ true) (rl:f1 zgP [.g (.rng 0 n)]=some (.l sf)) (od:zbP [.l P0,.l sf]=.ok (.l go) [.l P1]) (fg:fz (.l go)=some Gd)
  (ll:∃qq,eLS (srcM true (fun ds=>ds.map O.d) (eIx (zaa 1) ↥1)) [none,some 6] (gtN 0) (gRet true) zaN [.l P1,.d N,⇑p,⇑q,.d S,⇑k,.d Gd,.z,.z,.z,.z]=.ok (.own (.l no)) [.l P1,.d N,⇑p,⇑q,.d S,⇑k,.d Gd,.z,.z,.z,.z] qq) (fn:fz (.t [⇑n,.l no])=some N')
  (tp:∀ρ:Rho,ρ[6]? = some (.d Gd)->ρ[2]? = some ⇑p->∃qq,eIx (zaa 6) (zaa 2) ρ=.ok (.own ⇑a) ρ qq) (tq:∀ρ:Rho,ρ[6]? = some (.d Gd)->ρ[3]? = some ⇑q->∃qq,eIx (zaa 6) (zaa 3) ρ=.ok (.own ⇑b) ρ qq)
  {so:List O} (sl:∃qq,eLS (srcM true (fun ds=>ds.map O.d) (zaa 4)) [none,some 6] (gtN 0) (gRet true) zaQ [.l P1,.d N,⇑p,⇑q,.d S,⇑k,.d Gd,.d N',.z,.z,.z]=.ok (.own (.l so)) [.l P1,.d N,⇑p,⇑q,.d S,⇑k,.d Gd,.d N',.z,.z,.z] qq)
  (a1:zaB [.d N',⇑a,⇑b,.l so,⇑k]=.ok (.l o1) []) (a2:zaB [.d N,⇑p,⇑q,.d S,⇑k]=.ok (.l o2) []) (fe:fEq true (.l o1) (.l o2)=some (.d (.bool false)))
  (e1:zaz [.d N]=.ok (.l t1) []) (f1':fz (.l t1)=some Td) (e2:zaz [.d N']=.ok (.l t2) []) (f2':fz (.l t2)=some Te)
  (lp:∃z,sFor (itR1 (eIx (zaa 1) ↥0)) (gtN 10) za1 [.l P1,.d N,⇑p,⇑q,.d S,⇑k,.d Gd,.d N',.d Td,.d Te,.z]=.nx [.l P1,.d N,⇑p,⇑q,.d S,⇑k,.d Gd,.d N',.d Td,.d Te,z])
  (w1:zaF [.d N',⇑a,⇑b]=.ok (.d W) []) (w2:zaF [.d N,⇑p,⇑q]=.ok (.d W) []) (we:fEq false (.d W) (.d W)=some (.d (.bool true))) :
  zaU [.l P0,.d N,⇑p,⇑q,.d S,⇑k]=.ok (.d (.bool true)) [.l P1]:=by
 obtain ⟨q1,ll⟩:=ll;obtain ⟨q2,sl⟩:=sl;obtain ⟨z,lp⟩:=lp;have b1:(sAsg coe (eFz (zae [true,false] zbP (zac (zaa 0) (zac (eB (zac (eB (zac (eIx (zaa 1) ↥0) aNil) (f1 zjL)) aNil) (f1 zgP)) aNil)))) (gtN 6)) [.l P0,.d N,⇑p,⇑q,.d S,⇑k,.z,.z,.z,.z,.z]=.nx [.l P1,.d N,⇑p,⇑q,.d S,⇑k,.d Gd,.z,.z,.z,.z]:=
  zao (zc8 (zas (zab rfl (zab (zfl (zab (zfl (zab (g0 _ rfl) rfl rfl) rfl rfl) rfl rfl) rfl rl) rfl rfl) rfl) rfl od rfl rfl) fg) rfl rfl
 have b2:(sAsg coe (eFz (zay coes mkT (zac (eIx (zaa 1) ↥0) (zac (eLS (srcM true (fun ds=>ds.map O.d) (eIx (zaa 1) ↥1)) [none,some 6] (gtN 0) (gRet true) zaN) aNil)))) (gtN 7)) [.l P1,.d N,⇑p,⇑q,.d S,⇑k,.d Gd,.z,.z,.z,.z]=.nx [.l P1,.d N,⇑p,⇑q,.d S,⇑k,.d Gd,.d N',.z,.z,.z]:=
  zao (zc8 (zax (zab (g0 _ rfl) (zab ll rfl rfl) rfl) rfl (nlq rfl) rfl) fn) rfl rfl
 obtain ⟨x1,p1⟩:=tp [.l P1,.d N,⇑p,⇑q,.d S,⇑k,.d Gd,.d N',.z,.z,.z] rfl rfl;obtain ⟨x2,p2⟩:=tq [.l P1,.d N,⇑p,⇑q,.d S,⇑k,.d Gd,.d N',.z,.z,.z] rfl rfl;have b3:(sIf (tst (L2.e2 (zae [false,false,false,false,false] zaB (zac (zaa 7) (zac (eIx (zaa 6) (zaa 2)) (zac (eIx (zaa 6) (zaa 3)) (zac (eLS (srcM true (fun ds=>ds.map O.d) (zaa 4)) [none,some 6] (gtN 0) (gRet true) zaQ) (zac (zaa 5) aNil)))))) (zae [false,false,false,false,false] zaB (zac (zaa 1) (zac (zaa 2) (zac (zaa 3) (zac (zaa 4) (zac (zaa 5) aNil)))))) (fEq true))) (sRet mov (eC (.bool false))) sNil) [.l P1,.d N,⇑p,⇑q,.d S,⇑k,.d Gd,.d N',.z,.z,.z]=.nx [.l P1,.d N,⇑p,⇑q,.d S,⇑k,.d Gd,.d N',.z,.z,.z]:=
  if_f (zaR (zau (zas (zab rfl (zab p1 (zab p2 (zab sl (zab rfl rfl rfl) rfl) rfl) rfl) rfl) rfl a1 rfl rfl) (zas (zab rfl (zab rfl (zab rfl (zab rfl (zab rfl rfl rfl) rfl) rfl) rfl) rfl) rfl a2 rfl rfl) rfl rfl rfl fe) rfl) rfl
 have b4:(sAsg coe (eFz (zae [false] zaz (zac (zaa 1) aNil))) (gtN 8)) [.l P1,.d N,⇑p,⇑q,.d S,⇑k,.d Gd,.d N',.z,.z,.z]=.nx [.l P1,.d N,⇑p,⇑q,.d S,⇑k,.d Gd,.d N',.d Td,.z,.z]:=
  zao (zc8 (zas (zab rfl rfl rfl) rfl e1 rfl rfl) f1') rfl rfl
 have b5:(sAsg coe (eFz (zae [false] zaz (zac (zaa 7) aNil))) (gtN 9)) [.l P1,.d N,⇑p,⇑q,.d S,⇑k,.d Gd,.d N',.d Td,.z,.z]=.nx [.l P1,.d N,⇑p,⇑q,.d S,⇑k,.d Gd,.d N',.d Td,.d Te,.z]:=
  zao (zc8 (zas (zab rfl rfl rfl) rfl e2 rfl rfl) f2') rfl rfl
 obtain ⟨x3,p3⟩:=tp [.l P1,.d N,⇑p,⇑q,.d S,⇑k,.d Gd,.d N',.d Td,.d Te,z] rfl rfl;obtain ⟨x4,p4⟩:=tq [.l P1,.d N,⇑p,⇑q,.d S,⇑k,.d Gd,.d N',.d Td,.d Te,z] rfl rfl;refine zbn (n:=11) rfl (L2.zag b1 (L2.zag b2 (L2.zag b3 (L2.zag b4 (L2.zag b5 (L2.zag lp (zaS (zau (zgQ (zab rfl (zab p3 (zab p4 rfl rfl) rfl) rfl) rfl w1) (zgQ (zab rfl (zab rfl (zab rfl rfl rfl) rfl) rfl) rfl w2) rfl rfl rfl we) rfl))))))) rfl
end
theorem zit {p0:O} {n p q k c d M:Int} {rs:List Road} (hp0:PuOk p0 M) (hM:M<=1125899906000000) (ok:zaw n rs) (T:Taut rs) (hp:0<=p/\p < n) (hq:0<=q/\q < n) (k0:0<=k) (k1:k<=60) (hc:0<=c/\c < n) (hd:0<=d/\d < n) :
  ∃p1,zaU [p0,.d (netD n rs),⇑p,⇑q,.d (zal [p,c,d,q]),⇑k]=.ok (.d (.bool true)) [p1]/\PuOk p1 (M+400):=by
 have n0:=ok.n0;have n1:=ok.n1;obtain ⟨p1,G,od,pm,hp1⟩:=zmI (L:=(List.range n.toNat).map fun i:Nat=>(i:Int)) hp0 hM (by simp;omega);refine ⟨p1, ?_,hp1⟩;obtain ⟨x0,y0,v0,rfl⟩:=hp0.sh;obtain ⟨x1,y1,v1,rfl⟩:=hp1.sh;obtain ⟨hG,g,P,Q⟩:=zpp n0 pm;have hS:∀s∈[p,c,d,q],0<=s/\s < n:=fun s hs=>by
  simp only[List.mem_cons,List.not_mem_nil,or_false] at hs;rcases hs with rfl | rfl | rfl | rfl<;>assumption
 have ok':=zjx P ok;have T':=zjy P ok T Q;have hS':∀s∈[p,c,d,q].map (hgt G),0<=s/\s < n:=fun s hs=>by
  obtain ⟨t,ht,rfl⟩:=List.mem_map.mp hs;exact P.to _ (hS t ht)
 obtain ⟨o1,a1,z1⟩:=zji (S:=[p,c,d,q].map (hgt G)) (k:=k) ok' T' (P.to _ hp) (P.to _ hq) k0 k1 hS' (by simp) (by simp) (.inr rfl);obtain ⟨o2,a2,z2⟩:=zji (S:=[p,c,d,q]) (k:=k) ok T hp hq k0 k1 hS (by simp) (by simp) (.inl rfl);have ea:=zhN (k:=k) (S:=[p,c,d,q]) (zkQ P Q ok T hp hq) (congrArg sumO (zmY P Q ok T hS));rw[ea] at z1;have ly:=zjw n rs p q [p,c,d,q] k;have fe:=zeR z1 z2 ly.shaped (zdo _ ly.1) true;have w1:=ziV ok' T' (P.to _ hp) (P.to _ hq);have w2:=ziV ok T hp hq;rw[zdU P Q ok T hp hq,zdU P Q ok T hq hp] at w1;have ly2:=zlL ((cel n rs q p).map fun x=>-x) (cel n rs p q);have we:=zeR (fz_d _) (fz_d _) ly2.shaped (zdo _ ly2.1) false;have sh:=zcV n.toNat rs;have sh':=zcV n.toNat (rs.map (numR (hgt G)));have lp:∃z,sFor (itR1 (eIx (zaa 1) ↥0)) (gtN 10) za1 [.l [⇑x1,⇑y1,⇑v1],.d (netD n rs),⇑p,⇑q,.d (zal [p,c,d,q]),⇑k,.d (zal G),.d (netD n (rs.map (numR (hgt G)))),.d (tabD (zaq n.toNat rs)),.d (tabD (zaq n.toNat (rs.map (numR (hgt G))))),.z]=.nx [.l [⇑x1,⇑y1,⇑v1],.d (netD n rs),⇑p,⇑q,.d (zal [p,c,d,q]),⇑k,.d (zal G),.d (netD n (rs.map (numR (hgt G)))),.d (tabD (zaq n.toNat rs)),.d (tabD (zaq n.toNat (rs.map (numR (hgt G))))),z]:=by
  obtain ⟨ρ',e,z,rfl⟩:=zcp (G:=gtN 10) (S:=za1) (items:=rngO 0 n.toNat) (ρ:=[.l [⇑x1,⇑y1,⇑v1],.d (netD n rs),⇑p,⇑q,.d (zal [p,c,d,q]),⇑k,.d (zal G),.d (netD n (rs.map (numR (hgt G)))),.d (tabD (zaq n.toNat rs)),.d (tabD (zaq n.toNat (rs.map (numR (hgt G))))),.z])
   (fun i ρ=>∃z,ρ=[.l [⇑x1,⇑y1,⇑v1],.d (netD n rs),⇑p,⇑q,.d (zal [p,c,d,q]),⇑k,.d (zal G),.d (netD n (rs.map (numR (hgt G)))),.d (tabD (zaq n.toNat rs)),.d (tabD (zaq n.toNat (rs.map (numR (hgt G))))),z]) ⟨_,rfl⟩ (fun i x ρ hx hx__=>by
    obtain ⟨z,e⟩:=hx__;subst e;obtain ⟨hi,rfl⟩:=zcN hx;rw[Int.zero_add];have hi':i < (zaq n.toNat rs).length:=by rw[sh.len];exact hi
    have er:(zaq n.toNat rs)[i]=(List.range n.toNat).map fun j:Nat=>cell (zaq n.toNat (rs.map (numR (hgt G)))) (hgt G (i:Int)).toNat (hgt G (j:Int)).toNat:=by
     have lr:=sh.row _ (List.getElem_mem hi');refine List.ext_getElem (by simp[lr]) fun j h1 h2=>?_
     rw[List.getElem_map,List.getElem_range];rw[lr] at h1;have c1:=zdU (p:=(i:Int)) (q:=(j:Int)) P Q ok T ⟨by omega,by omega⟩ ⟨by omega,by omega⟩;unfold F30.cel at c1;rw[c1];simp only[Int.toNat_natCast];unfold cell;rw[List.getElem?_eq_getElem hi']
     show _=((zaq n.toNat rs)[i][j]?).getD none
     rw[List.getElem?_eq_getElem];rfl
    obtain ⟨qq,rl⟩:=zna (ρ:=[.l [⇑x1,⇑y1,⇑v1],.d (netD n rs),⇑p,⇑q,.d (zal [p,c,d,q]),⇑k,.d (zal G),.d (netD n (rs.map (numR (hgt G)))),.d (tabD (zaq n.toNat rs)),.d (tabD (zaq n.toNat (rs.map (numR (hgt G))))),⇑(i:Int)]) n0 n1 hG P.to sh' (near:=(i:Int)) ⟨by omega,by omega⟩ (zfQ rfl) rfl rfl er;have rd:eIx (zaa 8) (zaa 10) [.l [⇑x1,⇑y1,⇑v1],.d (netD n rs),⇑p,⇑q,.d (zal [p,c,d,q]),⇑k,.d (zal G),.d (netD n (rs.map (numR (hgt G)))),.d (tabD (zaq n.toNat rs)),.d (tabD (zaq n.toNat (rs.map (numR (hgt G))))),⇑(i:Int)]=.ok (.own (.d (rowD (zaq n.toNat rs)[i]))) [.l [⇑x1,⇑y1,⇑v1],.d (netD n rs),⇑p,⇑q,.d (zal [p,c,d,q]),⇑k,.d (zal G),.d (netD n (rs.map (numR (hgt G)))),.d (tabD (zaq n.toNat rs)),.d (tabD (zaq n.toNat (rs.map (numR (hgt G))))),⇑(i:Int)] (true&&true):=
     za6 (F24.zer rfl) (zaD rfl rfl rfl) rfl (zgf (j:=i) rfl (zcX ⟨by omega,by simp only[List.length_map];omega⟩) (by rw[List.getElem?_map,List.getElem?_eq_getElem hi'];rfl))
    have fq:=zeR (zhS (zaq n.toNat rs)[i]) (fz_d (rowD (zaq n.toNat rs)[i])) (zfa _) (zdo _ (Bool.and_eq_true_iff.mp (zfa (zaq n.toNat rs)[i])).1) true;exact ⟨_,_,rfl,if_f (zaR (zau rl rd rfl rfl rfl fq) rfl) rfl,_,rfl⟩)
  exact ⟨z,zgp (zfx (zaD (zfQ rfl) rfl rfl) (zdD ∅ ∅) rfl) e⟩
 have tr:∀(j:Nat) (v:Int),(0<=v/\v < n)->∀ρ:Rho,ρ[6]? = some (.d (zal G))->ρ[j]? = some ⇑v->∃qq,eIx (zaa 6) (zaa j) ρ=.ok (.own ⇑(hgt G v)) ρ qq:=fun j v hv ρ h6 h2=>⟨_,zke h6 (zaD (x:=⇑v) (q:=true) (F24.zer h2) (by simp[vn,vw,h2,sub]) rfl) ⟨hv.1,by omega⟩⟩
 exact zsf (fun ρ h=>zfQ h) (zmj n0 n1) od (zce G) (zmO rfl rfl rfl ok hG) (zjB n _) (tr 2 p hp) (tr 3 q hq) (zkg rfl rfl rfl hS (by simp) hG) a1 a2 fe (zdE ok T) (zh8 _) (zdE ok' T') (zh8 _) lp w1 w2 we
end F42
namespace F42
theorem zkI {ms:List Bool} {i:Nat} {rs:List Rv} {ρ ρ2:Rho} {X:List O} {os:List O} {is:List Nat} (h:ρ[i]? = some (.l X)) (k:pass ms rs (ρ.set i .z)=some (os,is,ρ2)):pass (true::ms) (.at i []::rs) ρ=some (.l X::os,i::is,ρ2):=by
 unfold pass;rw[h];dsimp only;rw[k]
theorem zoc {n:Int} {rs:List Road} {m:Nat} (nb:NetB n 300000000 6 m rs) (hm:m<=60):zaw (n+1) rs:=⟨by have:=nb.n0;omega,by have:=nb.n1;omega,by have:=nb.len;omega,fun r hr=>by
 obtain ⟨a,b,c⟩:=nb.rd r hr;exact ⟨by omega,by omega,by omega⟩⟩
theorem zjc {P0 P1:List O} {w:O} {n r:Int} (dr:zaj [.l P0,⇑(n+1)]=.ok ⇑r [.l P1]):zdq [w,.l P0,⇑n]=.ok (.own ⇑r) [w,.l P1,⇑n] false:=
 zas (zab rfl (zab (zau rfl rfl rfl rfl rfl rfl) rfl rfl) rfl) rfl dr rfl rfl
theorem zt9 {p:O} {M n:Int} (hp:PuOk p M) (hM:M<=1125899906000000) (n0:0<=n) (n1:n<=20) {w0 w1 w4 w5 w6 w7 w8 w9 w10 w11:O} :
  ∃a b c d p',PuOk p' (M+16)/\(0<=a/\a < n+1)/\(0<=b/\b < n+1)/\(0<=c/\c < n+1)/\(0<=d/\d < n+1)/\∃q,eLC (itR1 ↥4) [none,some 2,some 3] (gtN 0) (gRet true) zdq [w0,w1,p,⇑n,w4,w5,w6,w7,w8,w9,w10,w11]=.ok (.own (.l [⇑a,⇑b,⇑c,⇑d])) [w0,w1,p',⇑n,w4,w5,w6,w7,w8,w9,w10,w11] q:=by
 obtain ⟨a,p1,d1,a0,a1,hp1⟩:=zbX (n:=n+1) hp ∅ ∅ ∅;obtain ⟨b,p2,d2,b0,b1,hp2⟩:=zbX (n:=n+1) hp1 ∅ ∅ ∅;obtain ⟨c,p3,d3,c0,c1,hp3⟩:=zbX (n:=n+1) hp2 ∅ ∅ ∅;obtain ⟨d,p4,d4,e0,e1,hp4⟩:=zbX (n:=n+1) hp3 ∅ ∅ ∅;obtain ⟨x0,y0,z0,rfl⟩:=hp.sh;obtain ⟨x1,y1,z1,rfl⟩:=hp1.sh;obtain ⟨x2,y2,z2,rfl⟩:=hp2.sh;obtain ⟨x3,y3,z3,rfl⟩:=hp3.sh;obtain ⟨x4,y4,z4,rfl⟩:=hp4.sh;refine ⟨a,b,c,d,_,hp4.mono ∅,⟨a0,a1⟩,⟨b0,b1⟩,⟨c0,c1⟩,⟨e0,e1⟩,_,zmP (items:=rngO 0 4) (zfx (j:=4) rfl rfl rfl) (nlq rfl) (F24.zfR rfl rfl (zjc d1) rfl (F24.zfR rfl rfl (zjc d2) rfl (F24.zfR rfl rfl (zjc d3) rfl (F24.zfR rfl rfl (zjc d4) rfl rfl))))⟩
theorem zoC (ns:List Int) {k:Int} (k0:0<=k) (k1:k < 2) {z2 z3 z4 z5 z6 z7 z8 z9 z10 z11:O} :
  ∃u2 u3 u4 u5 u6 u7 u8 u9 u10 u11,zeh [.q (ns.map V.int),⇑k,z2,z3,z4,z5,z6,z7,z8,z9,z10,z11]=.nx [.q (ns.map V.int),⇑k,u2,u3,u4,u5,u6,u7,u8,u9,u10,u11]:=by
 obtain ⟨p,e1,hp⟩:=zmt ns (k:=k) ∅ ∅;obtain ⟨n,rs,p1,eN,nb,sl,hp1⟩:=zoo (most:=6) (many:=9) hp ∅ ∅ ∅ ∅ ∅;have T:=sl.taut;have ok:zaw (n+1) rs:=zoc nb (by decide);have n0:=nb.n0;have n1:n<=6:=nb.n1;obtain ⟨a,b,c,d,p2,hp2,ha,hb,hc,hd,q4,dw⟩:=zt9 (w0:=.q (ns.map V.int)) (w1:=⇑k) (w4:=.d (zan rs)) (w5:=.d (netD (n+1) rs)) (w6:=z6) (w7:=z7) (w8:=z8) (w9:=z9) (w10:=z10) (w11:=z11) hp1 ∅ n0 ∅;obtain ⟨K,p3,dK,K0,K1,hp3⟩:=zbX (n:=13) hp2 ∅ ∅ ∅;have ab:=zm2 (k:=K) ok T ha hb K0 ∅ hc hd;obtain ⟨p4,nr,hp4⟩:=zit (k:=K) hp3 ∅ ok T ha hb K0 ∅ hc hd;have fzr:fz (zbA rs)=some (zan rs):=ziU rs;have mk:mkT [⇑(n+1),.d (zan rs)]=.d (netD (n+1) rs):=rfl;have fS:fz (.l [⇑a,⇑c,⇑d,⇑b])=some (zal [a,c,d,b]):=rfl;obtain ⟨x0,y0,c0,rfl⟩:=hp.sh;obtain ⟨x1,y1,c1,rfl⟩:=hp1.sh;obtain ⟨x2,y2,c2,rfl⟩:=hp2.sh;obtain ⟨x3,y3,c3,rfl⟩:=hp3.sh;obtain ⟨x4,y4,c4,rfl⟩:=hp4.sh;unfold netO at *;unfold zbA at *;generalize rs.map (fun r=>O.d (zar r))=X at *;generalize netD (n+1) rs=Nd at *;generalize zan rs=Rd at *;have s1:(sAsg coe (zae [false,false] zbN (zac (zaa 0) (zac (zaa 1) aNil))) (gtN 2)) [.q (ns.map V.int),⇑k,z2,z3,z4,z5,z6,z7,z8,z9,z10,z11]=.nx [.q (ns.map V.int),⇑k,.l [⇑x0,⇑y0,⇑c0],z3,z4,z5,z6,z7,z8,z9,z10,z11]:=zao (zas (zab rfl (zab rfl rfl rfl) rfl) rfl e1 rfl rfl) rfl rfl;have s2:(sAsg coe (zae [true,false,false] zcj (zac (zaa 2) (zac ↥6 (zac ↥9 aNil)))) (gtT (zah (gtN 3) (zah (gtN 4) zbl)))) [.q (ns.map V.int),⇑k,.l [⇑x0,⇑y0,⇑c0],z3,z4,z5,z6,z7,z8,z9,z10,z11]=.nx [.q (ns.map V.int),⇑k,.l [⇑x1,⇑y1,⇑c1],⇑n,.l X,z5,z6,z7,z8,z9,z10,z11]:=zao (zas (zab rfl (zab rfl (zab rfl rfl rfl) rfl) rfl) rfl eN rfl rfl) rfl rfl;have s3:(sAsg coe (zay coes mkT (zac (e2 (zaa 3) ↥1 fAdd) (zac (zaa 4) aNil))) (gtN 5)) [.q (ns.map V.int),⇑k,.l [⇑x1,⇑y1,⇑c1],⇑n,.l X,z5,z6,z7,z8,z9,z10,z11]=.nx [.q (ns.map V.int),⇑k,.l [⇑x1,⇑y1,⇑c1],⇑n,.d Rd,.d Nd,z6,z7,z8,z9,z10,z11]:=zao (zax (zab (zau rfl rfl rfl rfl rfl rfl) (zab rfl rfl rfl) rfl) (znA rfl (znA (zfD rfl fzr) rfl)) (nlq rfl) mk) rfl rfl;have s4:(sAsg coe (eLC (itR1 ↥4) [none,some 2,some 3] (gtN 0) (gRet true) zdq) (gtL (zah (gtN 6) (zah (gtN 7) (zah (gtN 8) (zah (gtN 9) zbl)))))) [.q (ns.map V.int),⇑k,.l [⇑x1,⇑y1,⇑c1],⇑n,.d Rd,.d Nd,z6,z7,z8,z9,z10,z11]=.nx [.q (ns.map V.int),⇑k,.l [⇑x2,⇑y2,⇑c2],⇑n,.d Rd,.d Nd,⇑a,⇑b,⇑c,⇑d,z10,z11]:=zao dw rfl rfl;have s5:(sAsg coe (zay coes .l (zac (zaa 6) (zac (zaa 8) (zac (zaa 9) (zac (zaa 7) aNil))))) (gtN 10)) [.q (ns.map V.int),⇑k,.l [⇑x2,⇑y2,⇑c2],⇑n,.d Rd,.d Nd,⇑a,⇑b,⇑c,⇑d,z10,z11]=.nx [.q (ns.map V.int),⇑k,.l [⇑x2,⇑y2,⇑c2],⇑n,.d Rd,.d Nd,⇑a,⇑b,⇑c,⇑d,.l [⇑a,⇑c,⇑d,⇑b],z11]:=zao (zax (zab rfl (zab rfl (zab rfl (zab rfl rfl rfl) rfl) rfl) rfl) rfl (nlq rfl) rfl) rfl rfl;have s6:(sAsg coe (zae [true,false] zaj (zac (zaa 2) (zac ↥13 aNil))) (gtN 11)) [.q (ns.map V.int),⇑k,.l [⇑x2,⇑y2,⇑c2],⇑n,.d Rd,.d Nd,⇑a,⇑b,⇑c,⇑d,.l [⇑a,⇑c,⇑d,⇑b],z11]=.nx [.q (ns.map V.int),⇑k,.l [⇑x3,⇑y3,⇑c3],⇑n,.d Rd,.d Nd,⇑a,⇑b,⇑c,⇑d,.l [⇑a,⇑c,⇑d,⇑b],⇑K]:=zao (zas (zab rfl (zab rfl rfl rfl) rfl) rfl dK rfl rfl) rfl rfl;have s7:(sIf (gNot (eSc trV (zae [false,false,false,false,false] za4 (zac (zaa 5) (zac (zaa 6) (zac (zaa 7) (zac (zaa 10) (zac (zaa 11) aNil)))))))) (sRet mov (eC (.bool false))) sNil) [.q (ns.map V.int),⇑k,.l [⇑x3,⇑y3,⇑c3],⇑n,.d Rd,.d Nd,⇑a,⇑b,⇑c,⇑d,.l [⇑a,⇑c,⇑d,⇑b],⇑K]=.nx [.q (ns.map V.int),⇑k,.l [⇑x3,⇑y3,⇑c3],⇑n,.d Rd,.d Nd,⇑a,⇑b,⇑c,⇑d,.l [⇑a,⇑c,⇑d,⇑b],⇑K]:=
  if_f (zk8 (zaD (za2 (zab rfl (zab rfl (zab rfl (zab rfl (zab rfl rfl rfl) rfl) rfl) rfl) rfl) (zbE rfl (zbE rfl (zbE rfl (zbE (zfD rfl fS) (zbE rfl rfl))))) ab rfl) rfl rfl)) rfl
 have s8:(sIf (gNot (eSc trV (zae [true,false,false,false,false,false] zaU (zac (zaa 2) (zac (zaa 5) (zac (zaa 6) (zac (zaa 7) (zac (zaa 10) (zac (zaa 11) aNil))))))))) (sRet mov (eC (.bool false))) sNil) [.q (ns.map V.int),⇑k,.l [⇑x3,⇑y3,⇑c3],⇑n,.d Rd,.d Nd,⇑a,⇑b,⇑c,⇑d,.l [⇑a,⇑c,⇑d,⇑b],⇑K]=.nx [.q (ns.map V.int),⇑k,.l [⇑x4,⇑y4,⇑c4],⇑n,.d Rd,.d Nd,⇑a,⇑b,⇑c,⇑d,.d (zal [a,c,d,b]),⇑K]:=
  if_f (zk8 (zaD (zas (zab rfl (zab rfl (zab rfl (zab rfl (zab rfl (zab rfl rfl rfl) rfl) rfl) rfl) rfl) rfl) (zkI rfl (zbE rfl (zbE rfl (zbE rfl (zbE (zfD rfl fS) (zbE rfl rfl)))))) nr rfl rfl) rfl rfl)) rfl
 exact ⟨_,_,_,_,_,_,_,_,_,_,L2.zag s1 (L2.zag s2 (L2.zag s3 (L2.zag s4 (L2.zag s5 (L2.zag s6 (L2.zag s7 s8))))))⟩
theorem zg9 (ns:List Int) (_:ns.length<=63):∃ρ',zfd (.q (ns.map V.int)::List.replicate 11 .z)=.rt (.d (.bool true)) ρ':=by
 obtain ⟨ρ',e,u1,u2,u3,u4,u5,u6,u7,u8,u9,u10,u11,rfl⟩:=zcp (G:=gtN 1) (S:=zeh) (items:=rngO 0 2) (ρ:=[.q (ns.map V.int),.z,.z,.z,.z,.z,.z,.z,.z,.z,.z,.z])
  (fun i ρ=>∃u1 u2 u3 u4 u5 u6 u7 u8 u9 u10 u11,ρ=[.q (ns.map V.int),u1,u2,u3,u4,u5,u6,u7,u8,u9,u10,u11]) ⟨_,_,_,_,_,_,_,_,_,_,_,rfl⟩
  (fun i x ρ hx h=>by
   obtain ⟨u1,u2,u3,u4,u5,u6,u7,u8,u9,u10,u11,e⟩:=h;obtain ⟨hi,rfl⟩:=zcN hx;subst e;obtain ⟨v2,v3,v4,v5,v6,v7,v8,v9,v10,v11,st⟩:=zoC ns (k:=0+i) ∅ ∅ (z2:=u2) (z3:=u3) (z4:=u4) (z5:=u5) (z6:=u6) (z7:=u7) (z8:=u8) (z9:=u9) (z10:=u10) (z11:=u11);exact ⟨_,_,rfl,st,_,_,_,_,_,_,_,_,_,_,_,rfl⟩)
 exact ⟨_,L2.zag (zgp (zfx (j:=2) rfl rfl rfl) e) (zaS rfl rfl)⟩
end F42
theorem zg9 (ns:List Int) (h:ns.length<=63):∃ρ',zfd (.q (ns.map V.int)::List.replicate 11 .z)=.rt (.d (.bool true)) ρ':=F42.zg9 ns h
theorem vri {X:Cx} {E:XK} {i:Int} {j pos}:VR X E (.Constant (.int i) j pos) ↥i:=zcm zn3 fun _ _=>.int _
theorem vrb {X:Cx} {E:XK} {i:Bool} {j pos}:VR X E (.Constant (.bool i) j pos) (eC (.bool i)):=zcm zt7 fun _ _=>.bl _
theorem ln1 {A:Type}:∀{us:List A},us.length=1->∃a0,us=[a0]
 | [a0],_=>⟨a0,rfl⟩
theorem ln2 {A:Type}:∀{us:List A},us.length=2->∃a0 a1,us=[a0,a1]
 | [a0,a1],_=>⟨a0,a1,rfl⟩
theorem ln3 {A:Type}:∀{us:List A},us.length=3->∃a0 a1 a2,us=[a0,a1,a2]
 | [a0,a1,a2],_=>⟨a0,a1,a2,rfl⟩
theorem ln4 {A:Type}:∀{us:List A},us.length=4->∃a0 a1 a2 a3,us=[a0,a1,a2,a3]
 | [a0,a1,a2,a3],_=>⟨a0,a1,a2,a3,rfl⟩
theorem ln5 {A:Type}:∀{us:List A},us.length=5->∃a0 a1 a2 a3 a4,us=[a0,a1,a2,a3,a4]
 | [a0,a1,a2,a3,a4],_=>⟨a0,a1,a2,a3,a4,rfl⟩
theorem ln6 {A:Type}:∀{us:List A},us.length=6->∃a0 a1 a2 a3 a4 a5,us=[a0,a1,a2,a3,a4,a5]
 | [a0,a1,a2,a3,a4,a5],_=>⟨a0,a1,a2,a3,a4,a5,rfl⟩
local macro_rules | `(tactic| o_new)=>`(tactic| first | exact ⟨rfl,rfl,rfl,by decide +kernel,rfl,by decide +kernel,by decide +kernel⟩ | (intro _ _ _ _ _ _ us hl;first | (obtain ⟨_,h⟩:=ln1 hl;subst h;rfl) | (obtain ⟨_,_,h⟩:=ln2 hl;subst h;rfl) | (obtain ⟨_,_,_,h⟩:=ln3 hl;subst h;rfl) | (obtain ⟨_,_,_,_,h⟩:=ln4 hl;subst h;rfl) | (obtain ⟨_,_,_,_,_,_,h⟩:=ln6 hl;subst h;rfl) | (obtain ⟨_,_,_,_,_,h⟩:=ln5 hl;subst h;rfl)))
local macro_rules | `(∅)=>`(by o_new)
def top (i:Nat):Stmt:=PySem.Challenge.pw_tautroads_k42_whole_the_other_way_about.main.body.getD i (.Pass ⟨0,0,0,0⟩)
theorem sc__law_at:zak ["_law_script","_law_k"] ["_law_script","_law_k"] (zaf (top 58)):=∅
theorem sc__law_purse:zak ["_law_script","_law_at_here","_law_cell"] ["_law_script","_law_at_here"] (zaf (top 60)):=∅
theorem sc__law_mixed:zak ["_law_cell","_law_k","_law_number_here"] ["_law_cell","_law_k"] (zaf (top 59)):=∅
theorem sc__law_draw:zak ["_law_purse_here","_law_out_of","_law_drawn","_law_number_here","_law_k"] ["_law_purse_here","_law_out_of"] (zaf (top 61)):=∅
theorem sc__law_number:zak ["_law_purse_here","_law_most","_law_far"] ["_law_purse_here","_law_most"] (zaf (top 62)):=∅
theorem sc__law_net:zak ["_law_purse_here","_law_most","_law_many","_law_count","_law_high","_law_roads","_law_k","_law_one","_law_other","_law_slack"] ["_law_purse_here","_law_most","_law_many"] (zaf (top 64)):=∅
theorem sc__law_turned:zak ["_law_net_here"] ["_law_net_here"] (zaf (top 65)):=∅
theorem sc_is_place:zak ["count","number"] ["count","number"] (zaf (top 12)):=∅
theorem sc_is_road:zak ["count","road","start","end","length"] ["count","road"] (zaf (top 13)):=∅
theorem sc_check_net:zak ["net","count","roads","number","road"] ["net"] (zaf (top 14)):=∅
theorem sc_lower_once:zak ["roads","values","entries","last","number","start","end","length"] ["roads","values","entries"] (zaf (top 23)):=∅
theorem sc_lower:zak ["net","starts","count","roads","values","entries","last","turn"] ["net","starts"] (zaf (top 24)):=∅
theorem sc_check_taut:zak ["net","values","entries","last"] ["net"] (zaf (top 26)):=∅
theorem sc_lower_from:zak ["net","one","starts","values","entries","last"] ["net","one"] (zaf (top 30)):=∅
theorem sc_places_reached:zak ["net","one","reached","at","start","end","length"] ["net","one"] (zaf (top 29)):=∅
theorem sc_lengths_from:zak ["net","one","values","entries","reached"] ["net","one"] (zaf (top 35)):=∅
theorem sc_table:zak ["net"] ["net"] (zaf (top 36)):=∅
theorem sc_check_place:zak ["net","number"] ["net","number"] (zaf (top 15)):=∅
theorem sc_check_question:zak ["net","one","other"] ["net","one","other"] (zaf (top 17)):=∅
theorem sc_window:zak ["net","one","other","most","back"] ["net","one","other"] (zaf (top 37)):=∅
theorem sc_way_back:zak ["net","entries","one","other","roads","way"] ["net","entries","one","other"] (zaf (top 25)):=∅
theorem sc_least_in:zak ["net","one","other","reached","values","entries"] ["net","one","other"] (zaf (top 31)):=∅
theorem sc_least:zak ["net","one","other"] ["net","one","other"] (zaf (top 32)):=∅
theorem sc_together:zak ["lengths"] ["lengths"] (zaf (top 34)):=∅
theorem sc_length_through:zak ["rows","stops"] ["rows","stops"] (zaf (top 55)):=∅
theorem sc_table_for:zak ["net","stops","stop"] ["net","stops"] (zaf (top 54)):=∅
theorem sc_through:zak ["net","stops"] ["net","stops"] (zaf (top 56)):=∅
theorem sc__law_first:zak ["_law_told"] ["_law_told"] (zaf (top 66)):=∅
theorem sc_tight:zak ["net","one","other","rows","straight","told","number","start","end","length"] ["net","one","other"] (zaf (top 45)):=∅
theorem sc_way_length:zak ["net","way","roads"] ["net","way"] (zaf (top 19)):=∅
theorem sc_leads:zak ["net","one","other","way","roads","at","number"] ["net","one","other","way"] (zaf (top 18)):=∅
theorem sc_length_of:zak ["net","one","other","way"] ["net","one","other","way"] (zaf (top 21)):=∅
theorem sc__law_told_long:zak ["_law_net_here","_law_one","_law_other","_law_told"] ["_law_net_here","_law_one","_law_other","_law_told"] (zaf (top 67)):=∅
theorem sc_check_road:zak ["net","number"] ["net","number"] (zaf (top 16)):=∅
theorem sc_fall:zak ["net","number","start","end","length","back","ring"] ["net","number"] (zaf (top 39)):=∅
theorem sc_one_road_more:zak ["roads","lengths","further","entries","number","start","end","length","reach"] ["roads","lengths"] (zaf (top 51)):=∅
theorem sc_way_of_steps:zak ["roads","steps","other","way","at","entries"] ["roads","steps","other"] (zaf (top 52)):=∅
theorem sc_counted:zak ["net","one","other","k","count","roads","lengths","steps","turn","entries"] ["net","one","other","k"] (zaf (top 53)):=∅
theorem sc_shut:zak ["net","number","count","roads"] ["net","number"] (zaf (top 42)):=∅
theorem sc_detours:zak ["net","one","other","numbers","straight","told","number","around"] ["net","one","other"] (zaf (top 46)):=∅
theorem sc_needed:zak ["net","one","other"] ["net","one","other"] (zaf (top 47)):=∅
theorem sc_check_road_question:zak ["net","one","other","number"] ["net","one","other","number"] (zaf (top 41)):=∅
theorem sc_by:zak ["net","one","other","number","start","end","length","ahead","behind","way"] ["net","one","other","number"] (zaf (top 43)):=∅
theorem sc_without:zak ["net","one","other","number","told","way"] ["net","one","other","number"] (zaf (top 44)):=∅
theorem sc__law_all:zak ["_law_net_here","_law_one","_law_other","_law_stops","_law_k","_law_found","_law_number_here","_law_told"] ["_law_net_here","_law_one","_law_other","_law_stops","_law_k"] (zaf (top 68)):=∅
theorem sc_is_way:zak ["net","one","other","way"] ["net","one","other","way"] (zaf (top 20)):=∅
theorem sc__law_less:zak ["_law_number_here"] ["_law_number_here"] (zaf (top 69)):=∅
theorem sc__law_about_right:zak ["_law_net_here","_law_one","_law_other","_law_stops","_law_k","_law_back","_law_rows","_law_low","_law_high","_law_told"] ["_law_net_here","_law_one","_law_other","_law_stops","_law_k"] (zaf (top 70)):=∅
theorem sc__law_order:zak ["_law_purse_here","_law_some","_law_left","_law_found"] ["_law_purse_here","_law_some"] (zaf (top 63)):=∅
theorem sc__law_numbered_right:zak ["_law_purse_here","_law_net_here","_law_one","_law_other","_law_stops","_law_k","_law_to","_law_led","_law_rows","_law_there","_law_near"] ["_law_purse_here","_law_net_here","_law_one","_law_other","_law_stops","_law_k"] (zaf (top 71)):=∅
theorem sc_law:zak ["_law_script","_law_cell","_law_purse_here","_law_count","_law_roads","_law_net_here","_law_one","_law_other","_law_third","_law_last","_law_stops","_law_k"] ["_law_script"] (zaf (top 72)):=∅
abbrev Df (K:PySem.W.Frag) (mg:Str->Option Value) (x:Str) (s:Stmt):Prop:=∃f fd,Fun K x x s f fd/\mg x=some (.ref f)
structure Tx (K:PySem.W.Frag) (mg:Str->Option Value):Prop where
 d__law_at:Df K mg "_law_at" (top 58)
 d__law_purse:Df K mg "_law_purse" (top 60)
 d__law_mixed:Df K mg "_law_mixed" (top 59)
 d__law_draw:Df K mg "_law_draw" (top 61)
 d__law_number:Df K mg "_law_number" (top 62)
 d__law_net:Df K mg "_law_net" (top 64)
 d__law_turned:Df K mg "_law_turned" (top 65)
 d_is_place:Df K mg "is_place" (top 12)
 d_is_road:Df K mg "is_road" (top 13)
 d_check_net:Df K mg "check_net" (top 14)
 d_lower_once:Df K mg "lower_once" (top 23)
 d_lower:Df K mg "lower" (top 24)
 d_check_taut:Df K mg "check_taut" (top 26)
 d_lower_from:Df K mg "lower_from" (top 30)
 d_places_reached:Df K mg "places_reached" (top 29)
 d_lengths_from:Df K mg "lengths_from" (top 35)
 d_table:Df K mg "table" (top 36)
 d_check_place:Df K mg "check_place" (top 15)
 d_check_question:Df K mg "check_question" (top 17)
 d_window:Df K mg "window" (top 37)
 d_way_back:Df K mg "way_back" (top 25)
 d_least_in:Df K mg "least_in" (top 31)
 d_least:Df K mg "least" (top 32)
 d_together:Df K mg "together" (top 34)
 d_length_through:Df K mg "length_through" (top 55)
 d_table_for:Df K mg "table_for" (top 54)
 d_through:Df K mg "through" (top 56)
 d__law_first:Df K mg "_law_first" (top 66)
 d_tight:Df K mg "tight" (top 45)
 d_way_length:Df K mg "way_length" (top 19)
 d_leads:Df K mg "leads" (top 18)
 d_length_of:Df K mg "length_of" (top 21)
 d__law_told_long:Df K mg "_law_told_long" (top 67)
 d_check_road:Df K mg "check_road" (top 16)
 d_fall:Df K mg "fall" (top 39)
 d_one_road_more:Df K mg "one_road_more" (top 51)
 d_way_of_steps:Df K mg "way_of_steps" (top 52)
 d_counted:Df K mg "counted" (top 53)
 d_shut:Df K mg "shut" (top 42)
 d_detours:Df K mg "detours" (top 46)
 d_needed:Df K mg "needed" (top 47)
 d_check_road_question:Df K mg "check_road_question" (top 41)
 d_by:Df K mg "by" (top 43)
 d_without:Df K mg "without" (top 44)
 d__law_all:Df K mg "_law_all" (top 68)
 d_is_way:Df K mg "is_way" (top 20)
 d__law_less:Df K mg "_law_less" (top 69)
 d__law_about_right:Df K mg "_law_about_right" (top 70)
 d__law_order:Df K mg "_law_order" (top 63)
 d__law_numbered_right:Df K mg "_law_numbered_right" (top 71)
 d_law:Df K mg "law" (top 72)
 n_enumerate:mg "enumerate"=none
 n_int:mg "int"=none
 n_len:mg "len"=none
 n_list:mg "list"=none
 n_max:mg "max"=none
 n_range:mg "range"=none
 n_reversed:mg "reversed"=none
 n_sorted:mg "sorted"=none
 n_sum:mg "sum"=none
 n_zip:mg "zip"=none
 g_FAR:∃t,mg "FAR"=some (.int (40000000000) t)
 g_MOST_LENGTH:∃t,mg "MOST_LENGTH"=some (.int (1000000000) t)
 g_MOST_PLACES:∃t,mg "MOST_PLACES"=some (.int (20) t)
 g_MOST_ROADS:∃t,mg "MOST_ROADS"=some (.int (60) t)
 g_MOST_STEPS:∃t,mg "MOST_STEPS"=some (.int (60) t)
 g_MOST_STOPS:∃t,mg "MOST_STOPS"=some (.int (7) t)
variable {P:Program} {w:World} {K:PySem.W.Frag} {mg:Str->Option Value} {base:Heap}
theorem dfo {x:Str} {st:Stmt} {N ps:List Str} {k n:Nat} {ms:List Bool} {S:SF} (d:Df K mg x st)
  (sc:zak N ps (zaf st))
  (body:∀(f:Addr) (cdv:Value) (A:Around) (outer:List Env) (s:Shared) (H:Hp) (E:XK),Room k (A.deeper (PyProof.Rows.envOfC x (zaf st) s.heap.objs.size f cdv))->
   VSs (cxOf (CXF P w base) P w K mg base N x (zaf st) f cdv A outer s H E) E (zhk 0 ms) (zch st) S)
  (hb:∀(kV doc pm:Value) (an:Option Addr) (cdv ct:Value) (us:List Value),us.length=ps.length->bindArgs (PySem.W.fnOf x x (zdu st) (zch st) (zaf st) .none kV doc pm an cdv ct) ⟨us,[]⟩=pure (ps.zip us):=by o_new)
  (hms:ms.length=ps.length:=by rfl) (hn:N.length=n:=by rfl) (hpn:ps.length<=n:=by decide):VDef P w K mg base x ps (k+1) ms (runF ms n S):=zqD d hb sc hms hn hpn body
local macro_rules | `(tactic| o_new)=>`(tactic| focus first
 | ((with_reducible show VSs _ _ _ _ _);first | exact zcf | (refine zaX ?_;o_new) | (refine zai ?_ ?_;o_new;o_new))
 | ((with_reducible show VS _ _ _ (.If _ _ _ _) _);refine zep ?_ ?_ ?_;o_new;o_new;o_new)
 | ((with_reducible show VS _ _ _ (.Return _ _) _);(first | refine zdj zdH ?_ | refine zdj za0 ?_);o_new)
 | ((with_reducible show VS _ _ _ (.Assign _ _ _) _);first | (refine zhD za0 (by assumption) rfl (Or.inl rfl) (by decide) ?_;o_new) | (refine zhD za0 (by assumption) rfl (Or.inr rfl) (by decide) ?_;o_new) | (refine zqZ za0 ?_ ?_ ?_;o_new;o_new;o_new) | (refine znt za0 ?_ ?_;o_new;o_new))
 | ((with_reducible show VS _ _ _ (.AugAssign _ _ _ _) _);(first | refine znR (by assumption) rfl (Or.inl rfl) (by decide) ?_ zn6 | refine znR (by assumption) rfl (Or.inr rfl) (by decide) ?_ zn6);o_new)
 | ((with_reducible show VS _ _ _ (.For _ _ _ _ _) _);(first | refine zfN ?_ rfl rfl ‹Tx _ _›.n_range ?_ ?_ ?_ | refine zlE ?_ rfl rfl ‹Tx _ _›.n_enumerate ?_ ?_ ?_ | refine zo6 ?_ rfl ?_ ?_ ?_);(first | exact PassesOwn.leaving | exact PassesOwn.never);o_new;o_new;o_new)
 | ((with_reducible show VS _ _ _ (.While _ _ _ _) _);refine zjf ?_ ?_ ?_;(first | exact PassesOwn.leaving | exact PassesOwn.never);o_new;o_new)
 | ((with_reducible show VG _ _ _ _);first | exact zbL (zbM (by assumption) rfl (Or.inl rfl)) (by decide) | exact zbL (zbM (by assumption) rfl (Or.inr rfl)) (by decide) | (refine zl1 rfl ?_ _ ?_;o_new;repeat (first | exact (fun _ _ _=>zeT) | refine zb8 ?_)))
 | ((with_reducible show VGs _ _ _ _);first | exact ziB | (refine ze0 ?_ ?_;o_new;o_new))
 | ((with_reducible show VT _ _ (.BoolOp _ _ _) _);refine vt_w ?_;repeat (first | (refine zqH ?_;o_new) | (refine zpQ ?_;o_new) | (refine ztq ?_ ?_;o_new) | (refine zrj ?_ ?_;o_new)))
 | ((with_reducible show VS _ _ _ (.Expr _ _) _);refine zk1 ?_;o_new)
 | ((with_reducible show VT _ _ (.Compare _ [_] _ _) _);refine zhH ?_ ?_ ?_ (by with_unfolding_all rfl);(first | exact zqJ | exact ov_le | exact zri | exact ov_ge | exact znw | exact zkB | exact zrz ‹Room _ _›.units | exact zkd ‹Room _ _›.units | exact zr0 ‹Room _ _›.units65 | exact zjH ‹Room _ _›.units65);o_new;o_new)
 | ((with_reducible show VT _ _ (.Compare _ _ _ _) _);refine znr ?_ ?_ ?_ ?_ ?_;(first | exact zmJ | exact zl0);(first | exact zmJ | exact zl0);o_new;o_new;o_new)
 | ((with_reducible show VT _ _ (.UnaryOp _ _ _) _);refine zr7 ?_;o_new)
 | ((with_reducible show VT _ _ _ _);refine zrd ?_ (fun _=>rfl);o_new)
 | ((with_reducible show VA _ _ [] _);exact zfy)
 | ((with_reducible show VA _ _ (_::_) _);refine zbu ?_ ?_;o_new;o_new)
 | ((with_reducible show VO _ _ _ _);first | exact zpa | (refine zol ?_;o_new))
 | ((with_reducible show VR _ _ _ (eFz _));refine zpA ?_;o_new)
 | ((with_reducible show VR _ _ (.Name _ _) _);exact zoH (pv _))
 | ((with_reducible show VR _ _ (.Constant _ _ _) _);first | exact vri | exact vrb | exact zcm zql fun _ _=>.str _ | exact zcm pe_none fun _ _=>.none | exact zcm zq9 fun _ _=>.non)
 | ((with_reducible show VR _ _ (.Name _ _) _);first | exact zcm (zgK rfl ‹Tx _ _›.g_FAR) fun _ _=>.int _| exact zcm (zgK rfl ‹Tx _ _›.g_MOST_LENGTH) fun _ _=>.int _| exact zcm (zgK rfl ‹Tx _ _›.g_MOST_PLACES) fun _ _=>.int _| exact zcm (zgK rfl ‹Tx _ _›.g_MOST_ROADS) fun _ _=>.int _| exact zcm (zgK rfl ‹Tx _ _›.g_MOST_STEPS) fun _ _=>.int _| exact zcm (zgK rfl ‹Tx _ _›.g_MOST_STOPS) fun _ _=>.int _)
 | ((with_reducible show VR _ _ (.UnaryOp _ _ _) _);first | exact zcm zgo fun _ _=>.int _ | (refine ztf zrW ?_;o_new))
 | ((with_reducible show VR _ _ (.BinOp _ _ _ _) _);refine zrJ ?_ ?_ ?_;(first | exact znD | exact zsp | exact zqg | exact zsr | exact zp4 | exact zrC);o_new;o_new)
 | ((with_reducible show VR _ _ (.Subscript _ (.Slice _ _ _ _) _) _);refine zs8 ?_ ?_ ?_;o_new;o_new;o_new)
 | ((with_reducible show VR _ _ (.Subscript _ _ _) _);refine zs7 ?_ ?_ (fun _ _=>rfl);o_new;o_new)
 | ((with_reducible show VR _ _ (.IfExp _ _ _ _) _);refine ztA ?_ ?_ ?_;o_new;o_new;o_new)
 | ((with_reducible show VR _ _ (.BoolOp _ _ _) _);first | (refine znH ?_;o_new) | (refine zqI ?_ ?_;o_new;o_new) | (refine zqh ?_ ?_;o_new;o_new))
 | ((with_reducible show VR _ _ (.Compare _ [_] _ _) _);refine zqE ?_ ?_ ?_ (by with_unfolding_all rfl);(first | exact zqJ | exact ov_le | exact zri | exact ov_ge | exact znw | exact zkB | exact zrz ‹Room _ _›.units | exact zkd ‹Room _ _›.units | exact zr0 ‹Room _ _›.units65 | exact zjH ‹Room _ _›.units65);o_new;o_new)
 | ((with_reducible show VR _ _ (.Compare _ _ _ _) _);refine znn ?_ ?_ ?_ ?_ ?_;(first | exact zmJ | exact zl0);(first | exact zmJ | exact zl0);o_new;o_new;o_new)
 | ((with_reducible show VR _ _ (.Call (.Attribute _ _ _) [] _ _) _);refine zqb ?_ fun h=>zrH PySem.F.plainAttrs_int PySem.F.slot_int_bit_length PySem.F.type_int_bit_length zpl h;o_new)
 | ((with_reducible show VR _ _ (.Call (.Attribute _ _ _) _ _ _) _);refine zl9 ?_ ?_ fun h h'=>zpG PySem.F.plainAttrs_list PySem.F.slot_list_append PySem.F.type_list_append zhF h (zdP h' zeQ);o_new;o_new)
 | ((with_reducible show VR _ _ (.Call _ _ _ _) _);(first | (refine zeS zqn rfl ‹Tx _ _›.n_len PySem.boot_len ?_;o_new) | (refine zeS (zpF rfl) rfl ‹Tx _ _›.n_max PyProof.Rows.boot_max ?_;o_new) | (refine zeS (znB rfl) rfl ‹Tx _ _›.n_sum PyProof.Rows.boot_sum ?_;o_new) | (refine zeS zmb rfl ‹Tx _ _›.n_sorted PyProof.Rows.boot_sorted ?_;o_new) | (refine zeP zpb rfl ‹Tx _ _›.n_list PyProof.Rows.boot_list ?_;o_new) | (refine zeP zr4 rfl ‹Tx _ _›.n_int PyProof.Rows.boot_int ?_;o_new) | refine zfk (by assumption) (by assumption) (by decide) rfl ?_ ?_;(first | exact zkj rfl rfl rfl rfl | exact zj9);o_new))
 | ((with_reducible show VR _ _ (.List _ _) _);(first | refine zny zeX ?_ | refine zny zjh ?_);o_new)
 | ((with_reducible show VR _ _ (.Tuple _ _ _) _);(first | refine zgj zeX ?_ | refine zgj zjh ?_);o_new)
)
theorem zl7 (T:Tx K mg):VDef P w K mg base "_law_at" ["_law_script","_law_k"] 1 [false,false] zc5:=by
 have:=sc__law_at.nd
 exact dfo T.d__law_at sc__law_at (fun _ _ _ _ _ _ _ hr =>∅)
theorem zh5 (T:Tx K mg):VDef P w K mg base "_law_purse" ["_law_script","_law_at_here"] 2 [false,false] zbN:=by
 have:=@zl7 P w _ _ base T
 have:=sc__law_purse.nd
 exact dfo T.d__law_purse sc__law_purse (fun _ _ _ _ _ _ _ hr =>∅)
theorem zhC (T:Tx K mg):VDef P w K mg base "_law_mixed" ["_law_cell","_law_k"] 1 [false,false] zck:=by
 have:=sc__law_mixed.nd
 exact dfo T.d__law_mixed sc__law_mixed (fun _ _ _ _ _ _ _ hr =>∅)
theorem zdO (T:Tx K mg):VDef P w K mg base "_law_draw" ["_law_purse_here","_law_out_of"] 2 [true,false] zaj:=by
 have:=@zhC P w _ _ base T
 have:=sc__law_draw.nd
 exact dfo T.d__law_draw sc__law_draw (fun _ _ _ _ _ _ _ hr =>∅)
theorem zg4 (T:Tx K mg):VDef P w K mg base "_law_number" ["_law_purse_here","_law_most"] 3 [true,false] zcb:=by
 have:=@zdO P w _ _ base T
 have:=sc__law_number.nd
 exact dfo T.d__law_number sc__law_number (fun _ _ _ _ _ _ _ hr =>∅)
theorem zkq (T:Tx K mg):VDef P w K mg base "_law_net" ["_law_purse_here","_law_most","_law_many"] 4 [true,false,false] zcj:=by
 have:=@zdO P w _ _ base T
 have:=@zg4 P w _ _ base T
 have:=sc__law_net.nd
 exact dfo T.d__law_net sc__law_net (fun _ _ _ _ _ _ _ hr =>(zai ∅ (zai (zjA (N':=["_law_k","_law_purse_here"]) (js:=[none,some 0]) (i:=4) sc__law_net.nd rfl (Or.inl rfl) (by decide) ∅ rfl T.n_range rfl (by kernel_rfl) (by kernel_rfl) rfl (by decide) (fun _ _ _=>⟨(zbL (zbM (i:=0) (show List.Nodup [("_law_k":Str),("_law_purse_here":Str)] by decide +kernel) rfl (Or.inl rfl)) (by decide)),zcu,∅⟩)) ∅)))
theorem zhc (T:Tx K mg):VDef P w K mg base "_law_turned" ["_law_net_here"] 1 [false] zbq:=by
 have:=sc__law_turned.nd
 exact dfo T.d__law_turned sc__law_turned (fun _ _ _ _ _ _ _ hr =>(zaX (zdj za0 (zgj zeX (zbu ∅ (zbu (zgW true (N':=["_law_road"]) (js:=[none]) ∅ rfl (by kernel_rfl) (by kernel_rfl) rfl (by decide) (fun _ _ _=>⟨(zbL (zbM (i:=0) (show List.Nodup [("_law_road":Str)] by decide +kernel) rfl (Or.inl rfl)) (by decide)),zcu,∅⟩)) zfy))))))
theorem zgH (T:Tx K mg):VDef P w K mg base "is_place" ["count","number"] 1 [false,false] zbC:=by
 have:=sc_is_place.nd
 exact dfo T.d_is_place sc_is_place (fun _ _ _ _ _ _ _ hr =>∅)
theorem zlw (T:Tx K mg):VDef P w K mg base "is_road" ["count","road"] 2 [false,false] zcL:=by
 have:=@zgH P w _ _ base T
 have:=sc_is_road.nd
 exact dfo T.d_is_road sc_is_road (fun _ _ _ _ _ _ _ hr =>∅)
theorem zdT (T:Tx K mg):VDef P w K mg base "check_net" ["net"] 3 [false] zbf:=by
 have:=@zlw P w _ _ base T
 have:=sc_check_net.nd
 exact dfo T.d_check_net sc_check_net (fun _ _ _ _ _ _ _ hr =>(zai ∅ (zai (zep ∅ (zaX zeN) zcf) (zai (zep ∅ (zaX zeN) zcf) (zaX (zlE PassesOwn.leaving rfl rfl T.n_enumerate ∅ ∅ (zaX (zep ∅ (zaX zeN) zcf))))))))
theorem zhQ (T:Tx K mg):VDef P w K mg base "lower_once" ["roads","values","entries"] 1 [false,true,true] zb2:=by
 have:=sc_lower_once.nd
 exact dfo T.d_lower_once sc_lower_once (fun _ _ _ _ _ _ _ hr =>∅)
theorem zla (T:Tx K mg):VDef P w K mg base "lower" ["net","starts"] 2 [false,false] zb1:=by
 have:=@zhQ P w _ _ base T
 have:=sc_lower.nd
 exact dfo T.d_lower sc_lower (fun _ _ _ _ _ _ _ hr =>(zai ∅ (zai ∅ (zai ∅ (zai ∅ (zai (zfN PassesOwn.leaving rfl rfl T.n_range ∅ ∅ (zai ∅ (zaX (zep ∅ (zaX znp) zcf)))) ∅))))))
theorem zcv (T:Tx K mg):VDef P w K mg base "check_taut" ["net"] 3 [false] zaT:=by
 have:=@zla P w _ _ base T
 have:=sc_check_taut.nd
 exact dfo T.d_check_taut sc_check_taut (fun _ _ _ _ _ _ _ hr =>(zai ∅ (zaX (zep ∅ (zaX zeN) zcf))))
theorem zfv (T:Tx K mg):VDef P w K mg base "lower_from" ["net","one"] 3 [false,false] zbD:=by
 have:=@zla P w _ _ base T
 have:=sc_lower_from.nd
 exact dfo T.d_lower_from sc_lower_from (fun _ _ _ _ _ _ _ hr =>∅)
theorem zd0 (T:Tx K mg):VDef P w K mg base "places_reached" ["net","one"] 1 [false,false] zaY:=by
 have:=sc_places_reached.nd
 exact dfo T.d_places_reached sc_places_reached (fun _ _ _ _ _ _ _ hr =>∅)
theorem zdw (T:Tx K mg):VDef P w K mg base "lengths_from" ["net","one"] 4 [false,false] zaO:=by
 have:=@zfv P w _ _ base T
 have:=@zd0 P w _ _ base T
 have:=sc_lengths_from.nd
 exact dfo T.d_lengths_from sc_lengths_from (fun _ _ _ _ _ _ _ hr =>(zai ∅ (zai ∅ (zaX (zdj za0 (zfX (N':=["place","reached","values"]) (js:=[none,some 4,some 2]) ∅ rfl T.n_range rfl (by kernel_rfl) (by kernel_rfl) rfl (by decide) (fun _ _ _=>⟨(zbL (zbM (i:=0) (show List.Nodup [("place":Str),("reached":Str),("values":Str)] by decide +kernel) rfl (Or.inl rfl)) (by decide)),zcu,∅⟩)))))))
theorem zhi (T:Tx K mg):VDef P w K mg base "table" ["net"] 5 [false] zaz:=by
 have:=@zdT P w _ _ base T
 have:=@zcv P w _ _ base T
 have:=@zdw P w _ _ base T
 have:=sc_table.nd
 exact dfo T.d_table sc_table (fun _ _ _ _ _ _ _ hr =>(zai ∅ (zai ∅ (zaX (zdj za0 (zfX (N':=["one","net"]) (js:=[none,some 0]) ∅ rfl T.n_range rfl (by kernel_rfl) (by kernel_rfl) rfl (by decide) (fun _ _ _=>⟨(zbL (zbM (i:=0) (show List.Nodup [("one":Str),("net":Str)] by decide +kernel) rfl (Or.inl rfl)) (by decide)),zcu,∅⟩)))))))
theorem zeZ (T:Tx K mg):VDef P w K mg base "check_place" ["net","number"] 2 [false,false] zbe:=by
 have:=@zgH P w _ _ base T
 have:=sc_check_place.nd
 exact dfo T.d_check_place sc_check_place (fun _ _ _ _ _ _ _ hr =>(zaX (zep ∅ (zaX zeN) zcf)))
theorem zbg (T:Tx K mg):VDef P w K mg base "check_question" ["net","one","other"] 4 [false,false,false] zap:=by
 have:=@zdT P w _ _ base T
 have:=@zeZ P w _ _ base T
 have:=sc_check_question.nd
 exact dfo T.d_check_question sc_check_question (fun _ _ _ _ _ _ _ hr =>∅)
theorem zjP (T:Tx K mg):VDef P w K mg base "window" ["net","one","other"] 5 [false,false,false] zaF:=by
 have:=@zbg P w _ _ base T
 have:=@zcv P w _ _ base T
 have:=@zdw P w _ _ base T
 have:=sc_window.nd
 exact dfo T.d_window sc_window (fun _ _ _ _ _ _ _ hr =>∅)
theorem zkm (T:Tx K mg):VDef P w K mg base "way_back" ["net","entries","one","other"] 1 [false,false,false,false] zcF:=by
 have:=sc_way_back.nd
 exact dfo T.d_way_back sc_way_back (fun _ _ _ _ _ _ _ hr =>(zai ∅ (zai ∅ (zai ∅ (zaX (zdj zdH (zjO ∅ zgo (fun _ _=>⟨_,by with_unfolding_all rfl⟩))))))))
theorem zek (T:Tx K mg):VDef P w K mg base "least_in" ["net","one","other"] 4 [false,false,false] zat:=by
 have:=@zd0 P w _ _ base T
 have:=@zfv P w _ _ base T
 have:=@zkm P w _ _ base T
 have:=sc_least_in.nd
 exact dfo T.d_least_in sc_least_in (fun _ _ _ _ _ _ _ hr =>∅)
theorem zmh (T:Tx K mg):VDef P w K mg base "least" ["net","one","other"] 5 [false,false,false] zaP:=by
 have:=@zbg P w _ _ base T
 have:=@zcv P w _ _ base T
 have:=@zek P w _ _ base T
 have:=sc_least.nd
 exact dfo T.d_least sc_least (fun _ _ _ _ _ _ _ hr =>∅)
theorem zfh (T:Tx K mg):VDef P w K mg base "together" ["lengths"] 1 [false] zbc:=by
 have:=sc_together.nd
 exact dfo T.d_together sc_together (fun _ _ _ _ _ _ _ hr =>∅)
theorem zfH (T:Tx K mg):VDef P w K mg base "length_through" ["rows","stops"] 2 [false,false] zbV:=by
 have c_together:=@zfh P w _ _ base T
 have:=sc_length_through.nd
 exact dfo T.d_length_through sc_length_through (fun _ _ _ _ _ _ _ hr =>(zaX (zdj za0 (zfk c_together hr (by decide) rfl (zkj rfl rfl rfl rfl) (zbu (zqS (N':=["one","other","rows"]) (js:=[none,none,some 0]) ∅ rfl T.n_zip rfl (by kernel_rfl) (by kernel_rfl) rfl (by decide) (fun _ _ _=>⟨(zl1 rfl (ze0 (zbL (zbM (i:=0) (show List.Nodup [("one":Str),("other":Str),("rows":Str)] by decide +kernel) rfl (Or.inl rfl)) (by decide)) (ze0 (zbL (zbM (i:=1) (show List.Nodup [("one":Str),("other":Str),("rows":Str)] by decide +kernel) rfl (Or.inl rfl)) (by decide)) ziB)) 2 (zb8 (zb8 (fun _ _ _=>zeT)))),zcu,∅⟩)) zfy)))))
theorem zix (T:Tx K mg):VDef P w K mg base "table_for" ["net","stops"] 6 [false,false] zc2:=by
 have:=@zdT P w _ _ base T
 have:=@zhi P w _ _ base T
 have:=@zeZ P w _ _ base T
 have:=sc_table_for.nd
 exact dfo T.d_table_for sc_table_for (fun _ _ _ _ _ _ _ hr =>(zai ∅ (zai ∅ (zai (zep ∅ (zaX zeN) zcf) ∅))))
theorem zlP (T:Tx K mg):VDef P w K mg base "through" ["net","stops"] 7 [false,false] zbS:=by
 have:=@zfH P w _ _ base T
 have:=@zix P w _ _ base T
 have:=sc_through.nd
 exact dfo T.d_through sc_through (fun _ _ _ _ _ _ _ hr =>∅)
theorem zhX (T:Tx K mg):VDef P w K mg base "_law_first" ["_law_told"] 1 [false] zaG:=by
 have:=sc__law_first.nd
 exact dfo T.d__law_first sc__law_first (fun _ _ _ _ _ _ _ hr =>∅)
theorem zlB (T:Tx K mg):VDef P w K mg base "tight" ["net","one","other"] 6 [false,false,false] zbG:=by
 have:=@zbg P w _ _ base T
 have:=@zhi P w _ _ base T
 have:=@zfh P w _ _ base T
 have:=sc_tight.nd
 exact dfo T.d_tight sc_tight (fun _ _ _ _ _ _ _ hr =>∅)
theorem zei (T:Tx K mg):VDef P w K mg base "way_length" ["net","way"] 1 [false,false] za8:=by
 have:=sc_way_length.nd
 exact dfo T.d_way_length sc_way_length (fun _ _ _ _ _ _ _ hr =>(zai ∅ (zaX (zdj za0 (zeS (znB rfl) rfl T.n_sum PyProof.Rows.boot_sum (zbu (zgW true (N':=["number","roads"]) (js:=[none,some 2]) ∅ rfl (by kernel_rfl) (by kernel_rfl) rfl (by decide) (fun _ _ _=>⟨(zbL (zbM (i:=0) (show List.Nodup [("number":Str),("roads":Str)] by decide +kernel) rfl (Or.inl rfl)) (by decide)),zcu,∅⟩)) zfy))))))
theorem zlq (T:Tx K mg):VDef P w K mg base "leads" ["net","one","other","way"] 1 [false,false,false,false] zcW:=by
 have:=sc_leads.nd
 exact dfo T.d_leads sc_leads (fun _ _ _ _ _ _ _ hr =>∅)
theorem ziO (T:Tx K mg):VDef P w K mg base "length_of" ["net","one","other","way"] 5 [false,false,false,false] zco:=by
 have:=@zbg P w _ _ base T
 have:=@zei P w _ _ base T
 have:=@zlq P w _ _ base T
 have:=sc_length_of.nd
 exact dfo T.d_length_of sc_length_of (fun _ _ _ _ _ _ _ hr =>(zai ∅ (zai (zep ∅ (zaX zeN) zcf) ∅)))
theorem zfB (T:Tx K mg):VDef P w K mg base "_law_told_long" ["_law_net_here","_law_one","_law_other","_law_told"] 6 [false,false,false,false] zam:=by
 have:=@ziO P w _ _ base T
 have:=sc__law_told_long.nd
 exact dfo T.d__law_told_long sc__law_told_long (fun _ _ _ _ _ _ _ hr =>∅)
theorem zfz (T:Tx K mg):VDef P w K mg base "check_road" ["net","number"] 1 [false,false] zbF:=by
 have:=sc_check_road.nd
 exact dfo T.d_check_road sc_check_road (fun _ _ _ _ _ _ _ hr =>(zaX (zep ∅ (zaX zeN) zcf)))
theorem zqp (T:Tx K mg):VDef P w K mg base "fall" ["net","number"] 5 [false,false] zbY:=by
 have:=@zdT P w _ _ base T
 have:=@zfz P w _ _ base T
 have:=@zcv P w _ _ base T
 have:=@zek P w _ _ base T
 have:=@zei P w _ _ base T
 have:=sc_fall.nd
 exact dfo T.d_fall sc_fall (fun _ _ _ _ _ _ _ hr =>(zai ∅ (zai ∅ (zai ∅ (zai ∅ (zai ∅ (zai (zep ∅ (zaX (zdj zdH (zgj zgg ∅))) zcf) (zai ∅ (zaX (zdj zdH (zgj zgg ∅)))))))))))
theorem zgn (T:Tx K mg):VDef P w K mg base "one_road_more" ["roads","lengths"] 2 [false,false] zby:=by
 have:=@zfh P w _ _ base T
 have:=sc_one_road_more.nd
 exact dfo T.d_one_road_more sc_one_road_more (fun _ _ _ _ _ _ _ hr =>∅)
theorem zgx (T:Tx K mg):VDef P w K mg base "way_of_steps" ["roads","steps","other"] 1 [false,false,false] zbH:=by
 have:=sc_way_of_steps.nd
 exact dfo T.d_way_of_steps sc_way_of_steps (fun _ _ _ _ _ _ _ hr =>(zai ∅ (zai ∅ (zai (zoM PassesOwn.leaving rfl rfl T.n_reversed ∅ ∅ ∅) (zaX (zdj zdH (zjO ∅ zgo (fun _ _=>⟨_,by with_unfolding_all rfl⟩))))))))
theorem zlG (T:Tx K mg):VDef P w K mg base "counted" ["net","one","other","k"] 5 [false,false,false,false] zbb:=by
 have:=@zbg P w _ _ base T
 have:=@zcv P w _ _ base T
 have:=@zgn P w _ _ base T
 have:=@zgx P w _ _ base T
 have:=sc_counted.nd
 exact dfo T.d_counted sc_counted (fun _ _ _ _ _ _ _ hr =>(zai ∅ (zai (zep ∅ (zaX zeN) zcf) (zai ∅ (zai ∅ (zai (zjA (N':=["place","one"]) (js:=[none,some 1]) (i:=6) sc_counted.nd rfl (Or.inl rfl) (by decide) ∅ rfl T.n_range rfl (by kernel_rfl) (by kernel_rfl) rfl (by decide) (fun _ _ _=>⟨(zbL (zbM (i:=0) (show List.Nodup [("place":Str),("one":Str)] by decide +kernel) rfl (Or.inl rfl)) (by decide)),zcu,∅⟩)) ∅))))))
theorem znE (T:Tx K mg):VDef P w K mg base "shut" ["net","number"] 1 [false,false] zdc:=by
 have:=sc_shut.nd
 exact dfo T.d_shut sc_shut (fun _ _ _ _ _ _ _ hr =>∅)
theorem zib (T:Tx K mg):VDef P w K mg base "detours" ["net","one","other"] 7 [false,false,false] zbm:=by
 have:=@zlB P w _ _ base T
 have:=@zdw P w _ _ base T
 have:=@znE P w _ _ base T
 have:=sc_detours.nd
 exact dfo T.d_detours sc_detours (fun _ _ _ _ _ _ _ hr =>∅)
theorem znh (T:Tx K mg):VDef P w K mg base "needed" ["net","one","other"] 8 [false,false,false] zb3:=by
 have:=@zib P w _ _ base T
 have:=sc_needed.nd
 exact dfo T.d_needed sc_needed (fun _ _ _ _ _ _ _ hr =>(zaX (zdj za0 (zgW false (N':=["number","more"]) (js:=[none,none]) ∅ rfl (by kernel_rfl) (by kernel_rfl) rfl (by decide) (fun _ _ _=>⟨(zl1 rfl (ze0 (zbL (zbM (i:=0) (show List.Nodup [("number":Str),("more":Str)] by decide +kernel) rfl (Or.inl rfl)) (by decide)) (ze0 (zbL (zbM (i:=1) (show List.Nodup [("number":Str),("more":Str)] by decide +kernel) rfl (Or.inl rfl)) (by decide)) ziB)) 2 (zb8 (zb8 (fun _ _ _=>zeT)))),zcu,∅⟩)))))
theorem zcS (T:Tx K mg):VDef P w K mg base "check_road_question" ["net","one","other","number"] 5 [false,false,false,false] zaL:=by
 have:=@zbg P w _ _ base T
 have:=@zfz P w _ _ base T
 have:=@zcv P w _ _ base T
 have:=sc_check_road_question.nd
 exact dfo T.d_check_road_question sc_check_road_question (fun _ _ _ _ _ _ _ hr =>∅)
theorem v_by (T:Tx K mg):VDef P w K mg base "by" ["net","one","other","number"] 6 [false,false,false,false] zcE:=by
 have:=@zcS P w _ _ base T
 have:=@zek P w _ _ base T
 have:=@zei P w _ _ base T
 have:=sc_by.nd
 exact dfo T.d_by sc_by (fun _ _ _ _ _ _ _ hr =>∅)
theorem zl8 (T:Tx K mg):VDef P w K mg base "without" ["net","one","other","number"] 6 [false,false,false,false] zbp:=by
 have:=@zcS P w _ _ base T
 have:=@zek P w _ _ base T
 have:=@znE P w _ _ base T
 have:=sc_without.nd
 exact dfo T.d_without sc_without (fun _ _ _ _ _ _ _ hr =>(zai ∅ (zai ∅ (zai ∅ (zai (zoY true (N':=["at","number"]) (js:=[none,some 3]) (i:=5) sc_without.nd rfl (Or.inl rfl) (by decide) ∅ rfl (by kernel_rfl) (by kernel_rfl) rfl (by decide) (fun _ _ _=>⟨(zbL (zbM (i:=0) (show List.Nodup [("at":Str),("number":Str)] by decide +kernel) rfl (Or.inl rfl)) (by decide)),zcu,∅⟩)) (zaX (zdj zdH (zgj zgg ∅))))))))
theorem zgY (T:Tx K mg):VDef P w K mg base "_law_all" ["_law_net_here","_law_one","_law_other","_law_stops","_law_k"] 9 [false,false,false,false,false] zaB:=by
 have:=@zlP P w _ _ base T
 have:=@zhX P w _ _ base T
 have:=@zlB P w _ _ base T
 have:=@zfB P w _ _ base T
 have:=@zqp P w _ _ base T
 have:=@zlG P w _ _ base T
 have:=@znh P w _ _ base T
 have:=@zib P w _ _ base T
 have:=@zmh P w _ _ base T
 have:=@v_by P w _ _ base T
 have:=@zl8 P w _ _ base T
 have:=sc__law_all.nd
 exact dfo T.d__law_all sc__law_all (fun _ _ _ _ _ _ _ hr =>(zai ∅ (zai (zhD (i:=5) za0 sc__law_all.nd rfl (Or.inl rfl) (by decide) (zrJ znD (zqt ∅) ∅)) ∅)))
theorem zmw (T:Tx K mg):VDef P w K mg base "is_way" ["net","one","other","way"] 5 [false,false,false,false] zb9:=by
 have:=@zbg P w _ _ base T
 have:=@zlq P w _ _ base T
 have:=sc_is_way.nd
 exact dfo T.d_is_way sc_is_way (fun _ _ _ _ _ _ _ hr =>∅)
theorem ziz (T:Tx K mg):VDef P w K mg base "_law_less" ["_law_number_here"] 1 [false] zaV:=by
 have:=sc__law_less.nd
 exact dfo T.d__law_less sc__law_less (fun _ _ _ _ _ _ _ hr =>∅)
theorem zeV (T:Tx K mg):VDef P w K mg base "_law_about_right" ["_law_net_here","_law_one","_law_other","_law_stops","_law_k"] 10 [false,false,false,false,false] za4:=by
 have:=@zhc P w _ _ base T
 have:=@zhi P w _ _ base T
 have:=@zjP P w _ _ base T
 have:=@zmh P w _ _ base T
 have c__law_all:=@zgY P w _ _ base T;have c_is_way:=@zmw P w _ _ base T
 have:=@ziz P w _ _ base T
 have:=sc__law_about_right.nd
 exact dfo T.d__law_about_right sc__law_about_right (fun _ _ _ _ _ _ _ hr =>(zai ∅ (zai (zep (zhH (zkd hr.units) (zfk c__law_all hr (by decide) rfl (zkj rfl rfl rfl rfl) (zbu ∅ (zbu ∅ (zbu ∅ (zbu (zjO ∅ zgo (fun _ _=>⟨_,by with_unfolding_all rfl⟩)) ∅))))) ∅ (zjl _)) ∅ zcf) (zai ∅ (zai (zep (zhH (zkd hr.units) ∅ (zfX (N':=["_law_place","_law_rows"]) (js:=[none,some 6]) ∅ rfl T.n_range rfl (by kernel_rfl) (by kernel_rfl) rfl (by decide) (fun _ _ _=>⟨(zbL (zbM (i:=0) (show List.Nodup [("_law_place":Str),("_law_rows":Str)] by decide +kernel) rfl (Or.inr rfl)) (by decide)),zcu,(zgW true (N':=["_law_row","_law_place"]) (js:=[none,some 0]) ∅ rfl (by kernel_rfl) (by kernel_rfl) rfl (by decide) (fun _ _ _=>⟨(zbL (zbM (i:=0) (show List.Nodup [("_law_row":Str),("_law_place":Str)] by decide +kernel) rfl (Or.inl rfl)) (by decide)),zcu,∅⟩))⟩)) (zjl _)) ∅ zcf) (zai ∅ (zai ∅ (zai ∅ (zaX (zdj za0 (zqh ∅ (znH (zfk c_is_way hr (by decide) rfl (zkj rfl rfl rfl rfl) (zbu ∅ (zbu ∅ (zbu ∅ (zbu (zjO ∅ zgo (fun _ _=>⟨_,by with_unfolding_all rfl⟩)) zfy)))))))))))))))))
theorem zhy (T:Tx K mg):VDef P w K mg base "_law_order" ["_law_purse_here","_law_some"] 3 [true,false] zbP:=by
 have:=@zdO P w _ _ base T
 have:=sc__law_order.nd
 exact dfo T.d__law_order sc__law_order (fun _ _ _ _ _ _ _ hr =>(zai ∅ (zai ∅ (zai (zjf PassesOwn.leaving ∅ (zaX (zk1 (zl9 ∅ (zoj ∅ ∅ fun h h'=>zpG PySem.F.plainAttrs_list PySem.F.slot_list_pop PySem.F.type_list_pop znf h (zdP h' zeQ)) fun h h'=>zpG PySem.F.plainAttrs_list PySem.F.slot_list_append PySem.F.type_list_append zhF h (zdP h' zeQ))))) ∅))))
theorem zd2 (T:Tx K mg):VDef P w K mg base "_law_numbered_right" ["_law_purse_here","_law_net_here","_law_one","_law_other","_law_stops","_law_k"] 10 [true,false,false,false,false,false] zaU:=by
 have c__law_order:=@zhy P w _ _ base T
 have:=@zhi P w _ _ base T
 have c__law_all:=@zgY P w _ _ base T
 have:=@zjP P w _ _ base T
 have:=sc__law_numbered_right.nd
 exact dfo T.d__law_numbered_right sc__law_numbered_right (fun _ _ _ _ _ _ _ hr =>(zai (zhD (i:=6) za0 sc__law_numbered_right.nd rfl (Or.inr rfl) (by decide) (zpA (zfk c__law_order hr (by decide) rfl (zkj rfl rfl rfl rfl) (zbu ∅ (zbu (zeP (zmH rfl) rfl T.n_list PyProof.Rows.boot_list (zbu (zeP zm9 rfl T.n_range PyProof.Rows.boot_range ∅) zfy)) zfy))))) (zai (zhD (i:=7) za0 sc__law_numbered_right.nd rfl (Or.inl rfl) (by decide) (zpA (zgj zeX (zbu ∅ (zbu (zgW true (N':=["_law_road","_law_to"]) (js:=[none,some 6]) ∅ rfl (by kernel_rfl) (by kernel_rfl) rfl (by decide) (fun _ _ _=>⟨(zbL (zbM (i:=0) (show List.Nodup [("_law_road":Str),("_law_to":Str)] by decide +kernel) rfl (Or.inl rfl)) (by decide)),zcu,∅⟩)) zfy))))) (zai (zep (zhH (zkd hr.units) (zfk c__law_all hr (by decide) rfl (zkj rfl rfl rfl rfl) (zbu ∅ (zbu ∅ (zbu ∅ (zbu (zgW true (N':=["_law_stop","_law_to"]) (js:=[none,some 6]) ∅ rfl (by kernel_rfl) (by kernel_rfl) rfl (by decide) (fun _ _ _=>⟨(zbL (zbM (i:=0) (show List.Nodup [("_law_stop":Str),("_law_to":Str)] by decide +kernel) rfl (Or.inl rfl)) (by decide)),zcu,∅⟩)) ∅))))) ∅ (zjl _)) ∅ zcf) (zai ∅ (zai ∅ (zai (zfN PassesOwn.leaving rfl rfl T.n_range ∅ ∅ (zaX (zep (zhH (zkd hr.units) (zfX (N':=["_law_far","_law_there","_law_to","_law_near"]) (js:=[none,some 9,some 6,some 10]) ∅ rfl T.n_range rfl (by kernel_rfl) (by kernel_rfl) rfl (by decide) (fun _ _ _=>⟨(zbL (zbM (i:=0) (show List.Nodup [("_law_far":Str),("_law_there":Str),("_law_to":Str),("_law_near":Str)] by decide +kernel) rfl (Or.inl rfl)) (by decide)),zcu,∅⟩)) ∅ (zjl _)) ∅ zcf))) ∅)))))))
theorem zqY (T:Tx K mg):zjq P w K mg base "law" ["_law_script"] 11 (zjn K):=by
 have:=@zh5 P w _ _ base T
 have:=@zkq P w _ _ base T
 have:=@zdO P w _ _ base T
 have:=@zeV P w _ _ base T
 have:=@zd2 P w _ _ base T
 have:=sc_law.nd
 exact zrv (S:=zfd) (n:=12) T.d_law (by o_new) sc_law rfl (by decide) (fun _ _ _ _ _ _ _ hr =>(zai (zfN PassesOwn.never rfl rfl T.n_range vri ∅ (zai ∅ (zai ∅ (zai ∅ (zai (znt za0 (zfX (N':=["_law_k","_law_purse_here","_law_count"]) (js:=[none,some 2,some 3]) vri rfl T.n_range rfl (by kernel_rfl) (by kernel_rfl) rfl (by decide) (fun _ _ _=>⟨(zbL (zbM (i:=0) (show List.Nodup [("_law_k":Str),("_law_purse_here":Str),("_law_count":Str)] by decide +kernel) rfl (Or.inl rfl)) (by decide)),zcu,∅⟩)) (zoq rfl ∅ 4 (zb8 (zb8 (zb8 (zb8 (fun _ _ _=>zeT))))))) ∅))))) ∅)) zg9
theorem zp2 {K:PySem.W.Frag} {h:Heap} {mg:Str->Option Value} (X:K.In h) (G:h.Ns mainGlobals mg) (e:oo PySem.Challenge.pw_tautroads_k42_whole_the_other_way_about K=dd PySem.Challenge.pw_tautroads_k42_whole_the_other_way_about):Tx K mg:=by
 obtain ⟨e1,e⟩:=Prod.mk.inj e;obtain ⟨e2,e⟩:=Prod.mk.inj e;obtain ⟨e3,e4⟩:=Prod.mk.inj e;exact {
  d__law_at:=L2.zaM X G rfl (L2.zav e1 0 (a:=(top 58)) rfl)
  d__law_purse:=L2.zaM X G rfl (L2.zav e1 1 (a:=(top 60)) rfl)
  d__law_mixed:=L2.zaM X G rfl (L2.zav e1 2 (a:=(top 59)) rfl)
  d__law_draw:=L2.zaM X G rfl (L2.zav e1 3 (a:=(top 61)) rfl)
  d__law_number:=L2.zaM X G rfl (L2.zav e1 4 (a:=(top 62)) rfl)
  d__law_net:=L2.zaM X G rfl (L2.zav e1 5 (a:=(top 64)) rfl)
  d__law_turned:=L2.zaM X G rfl (L2.zav e1 6 (a:=(top 65)) rfl)
  d_is_place:=L2.zaM X G rfl (L2.zav e1 7 (a:=(top 12)) rfl)
  d_is_road:=L2.zaM X G rfl (L2.zav e1 8 (a:=(top 13)) rfl)
  d_check_net:=L2.zaM X G rfl (L2.zav e1 9 (a:=(top 14)) rfl)
  d_lower_once:=L2.zaM X G rfl (L2.zav e1 10 (a:=(top 23)) rfl)
  d_lower:=L2.zaM X G rfl (L2.zav e1 11 (a:=(top 24)) rfl)
  d_check_taut:=L2.zaM X G rfl (L2.zav e1 12 (a:=(top 26)) rfl)
  d_lower_from:=L2.zaM X G rfl (L2.zav e1 13 (a:=(top 30)) rfl)
  d_places_reached:=L2.zaM X G rfl (L2.zav e1 14 (a:=(top 29)) rfl)
  d_lengths_from:=L2.zaM X G rfl (L2.zav e1 15 (a:=(top 35)) rfl)
  d_table:=L2.zaM X G rfl (L2.zav e1 16 (a:=(top 36)) rfl)
  d_check_place:=L2.zaM X G rfl (L2.zav e1 17 (a:=(top 15)) rfl)
  d_check_question:=L2.zaM X G rfl (L2.zav e1 18 (a:=(top 17)) rfl)
  d_window:=L2.zaM X G rfl (L2.zav e1 19 (a:=(top 37)) rfl)
  d_way_back:=L2.zaM X G rfl (L2.zav e1 20 (a:=(top 25)) rfl)
  d_least_in:=L2.zaM X G rfl (L2.zav e1 21 (a:=(top 31)) rfl)
  d_least:=L2.zaM X G rfl (L2.zav e1 22 (a:=(top 32)) rfl)
  d_together:=L2.zaM X G rfl (L2.zav e1 23 (a:=(top 34)) rfl)
  d_length_through:=L2.zaM X G rfl (L2.zav e1 24 (a:=(top 55)) rfl)
  d_table_for:=L2.zaM X G rfl (L2.zav e1 25 (a:=(top 54)) rfl)
  d_through:=L2.zaM X G rfl (L2.zav e1 26 (a:=(top 56)) rfl)
  d__law_first:=L2.zaM X G rfl (L2.zav e1 27 (a:=(top 66)) rfl)
  d_tight:=L2.zaM X G rfl (L2.zav e1 28 (a:=(top 45)) rfl)
  d_way_length:=L2.zaM X G rfl (L2.zav e1 29 (a:=(top 19)) rfl)
  d_leads:=L2.zaM X G rfl (L2.zav e1 30 (a:=(top 18)) rfl)
  d_length_of:=L2.zaM X G rfl (L2.zav e1 31 (a:=(top 21)) rfl)
  d__law_told_long:=L2.zaM X G rfl (L2.zav e1 32 (a:=(top 67)) rfl)
  d_check_road:=L2.zaM X G rfl (L2.zav e1 33 (a:=(top 16)) rfl)
  d_fall:=L2.zaM X G rfl (L2.zav e1 34 (a:=(top 39)) rfl)
  d_one_road_more:=L2.zaM X G rfl (L2.zav e1 35 (a:=(top 51)) rfl)
  d_way_of_steps:=L2.zaM X G rfl (L2.zav e1 36 (a:=(top 52)) rfl)
  d_counted:=L2.zaM X G rfl (L2.zav e1 37 (a:=(top 53)) rfl)
  d_shut:=L2.zaM X G rfl (L2.zav e1 38 (a:=(top 42)) rfl)
  d_detours:=L2.zaM X G rfl (L2.zav e1 39 (a:=(top 46)) rfl)
  d_needed:=L2.zaM X G rfl (L2.zav e1 40 (a:=(top 47)) rfl)
  d_check_road_question:=L2.zaM X G rfl (L2.zav e1 41 (a:=(top 41)) rfl)
  d_by:=L2.zaM X G rfl (L2.zav e1 42 (a:=(top 43)) rfl)
  d_without:=L2.zaM X G rfl (L2.zav e1 43 (a:=(top 44)) rfl)
  d__law_all:=L2.zaM X G rfl (L2.zav e1 44 (a:=(top 68)) rfl)
  d_is_way:=L2.zaM X G rfl (L2.zav e1 45 (a:=(top 20)) rfl)
  d__law_less:=L2.zaM X G rfl (L2.zav e1 46 (a:=(top 69)) rfl)
  d__law_about_right:=L2.zaM X G rfl (L2.zav e1 47 (a:=(top 70)) rfl)
  d__law_order:=L2.zaM X G rfl (L2.zav e1 48 (a:=(top 63)) rfl)
  d__law_numbered_right:=L2.zaM X G rfl (L2.zav e1 49 (a:=(top 71)) rfl)
  d_law:=L2.zaM X G rfl (L2.zav e1 50 (a:=(top 72)) rfl)
  n_enumerate:=L2.zeu X G (L2.zav e2 0 rfl)
  n_int:=L2.zeu X G (L2.zav e2 1 rfl)
  n_len:=L2.zeu X G (L2.zav e2 2 rfl)
  n_list:=L2.zeu X G (L2.zav e2 3 rfl)
  n_max:=L2.zeu X G (L2.zav e2 4 rfl)
  n_range:=L2.zeu X G (L2.zav e2 5 rfl)
  n_reversed:=L2.zeu X G (L2.zav e2 6 rfl)
  n_sorted:=L2.zeu X G (L2.zav e2 7 rfl)
  n_sum:=L2.zeu X G (L2.zav e2 8 rfl)
  n_zip:=L2.zeu X G (L2.zav e2 9 rfl)
  g_FAR:=L2.ze8 X G (L2.zfo e3 0 rfl rfl)
  g_MOST_LENGTH:=L2.ze8 X G (L2.zfo e3 1 rfl rfl)
  g_MOST_PLACES:=L2.ze8 X G (L2.zfo e3 2 rfl rfl)
  g_MOST_ROADS:=L2.ze8 X G (L2.zfo e3 3 rfl rfl)
  g_MOST_STEPS:=L2.ze8 X G (L2.zfo e3 4 rfl rfl)
  g_MOST_STOPS:=L2.ze8 X G (L2.zfo e3 5 rfl rfl)
  }
end My
end
open PySem PySem.W PyProof.Rows
set_option maxRecDepth 100000 in
set_option maxHeartbeats 0 in
theorem PySem.Challenge.cw_tautroads_k42_whole_the_other_way_about_holds : PySem.Challenge.rw_tautroads_k42_whole_the_other_way_about.Holds := by
 w_on;o_law
 refine holds_open (d:=⟨"law",L2.zdu (My.top 72),L2.zch (My.top 72),L2.zaf (My.top 72),L2.zrr (My.top 72)⟩) (kwd:=[]) (q:=My.QQ PySem.Challenge.pw_tautroads_k42_whole_the_other_way_about) (Xt:=My.Xt PySem.Challenge.pw_tautroads_k42_whole_the_other_way_about) (XP:=XL (My.QQ PySem.Challenge.pw_tautroads_k42_whole_the_other_way_about) My.lv)
  My.left (L2.zgq (My.oo PySem.Challenge.pw_tautroads_k42_whole_the_other_way_about) (My.dd PySem.Challenge.pw_tautroads_k42_whole_the_other_way_about)).of (L2.zgq (My.oo PySem.Challenge.pw_tautroads_k42_whole_the_other_way_about) (My.dd PySem.Challenge.pw_tautroads_k42_whole_the_other_way_about)).keeps (fun s e=>xl_of s (Bool.and_eq_true_iff.mp e).1) XL.keeps (by kernel_rfl) (by kernel_rfl) (by kernel_rfl) (fun s e=>recFacts_of (Bool.and_eq_true_iff.mp e).2) (by kernel_rfl) (by assumption) (by first | k_qdec | decide +kernel) ⟨rfl,rfl,rfl,rfl,rfl,by decide +kernel⟩ ?hw ?hc
 case hw=>w_witness2
 case hc=>
  refine L2.zmx (l:=PySem.Challenge.rw_tautroads_k42_whole_the_other_way_about) (n:=63) (k:=11) (x:="_law_script") (CX:=L2.CX0) (sp:=L2.zjn) rfl (by decide) rfl ⟨rfl,by decide,by decide⟩ ?F ?S ?C
  case F=>
   intro w K mg fa h KX G e hmg
   have T:My.Tx K mg:=My.zp2 KX G e
   exact L2.zum T.d_law (fun _ _ _ _ _ _ _=>rfl) (fun base=>My.zqY (base:=base) T) hmg
  case S=>exact fun K H a ns hl hO hS=>L2.zov hl hO hS
  case C=>exact fun _ _ _ _ z=>z


