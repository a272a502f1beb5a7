import PyProof.Rows.All
import Wide.All
import OpenK.AllK
import Wide.FinOn
import Lean
import PyProof.EqAt
import PyProof.EqKinds
import PyProof.TupleCall
import PySem.Challenge.RW_tautroads_k34_so_many_roads
set_option genSizeOf false
set_option genInjectivity false
set_option Elab.async false
set_option compiler.extract_closed false
set_option bootstrap.genMatcherCode false
set_option linter.all false
set_option maxRecDepth 100000
noncomputable section
namespace L2
open PySem PySem.Spec PyProof.Rows
abbrev Key:=Sum Int Str
def zmC:Key->Value->Bool
 | .inl k,v=>Value.isInt k v
 | .inr x,v=>Value.isStrOf x v
def keyH (w:World):Key->Int
 | .inl k=>hashInt k
 | .inr x=>hashStr w x
theorem zbm:∀{k:Key} {v:Value},zmC k v=true->(∃i t,k=Sum.inl i/\v=Value.int i t)\/(∃x t,k=Sum.inr x/\v=Value.str x t)
 | .inl i,v,h=>by
  obtain ⟨t,e⟩:=Value.isInt_shape (k:=i) (v:=v) h;exact .inl ⟨i,t,rfl,e⟩
 | .inr x,v,h=>by
  obtain ⟨t,e⟩:=Value.isStrOf_shape (x:=x) (v:=v) h;exact .inr ⟨x,t,rfl,e⟩
theorem zmv (a b:Int):decide ((Sum.inl a:Key)=Sum.inl b)=(a==b):=by
 by_cases e:a=b
 .subst e;simp
 .have h:¬(Sum.inl a:Key)=Sum.inl b:=fun q=>e (Sum.inl.inj q)
  rw[decide_eq_false h];exact (beq_eq_false_iff_ne.mpr e).symm
theorem zoa (a b:Str):decide ((Sum.inr a:Key)=Sum.inr b)=decide (a=b):=by
 by_cases e:a=b
 .subst e;simp
 .have h:¬(Sum.inr a:Key)=Sum.inr b:=fun q=>e (Sum.inr.inj q)
  rw[decide_eq_false h,decide_eq_false e]
theorem zmX (a:Int) (b:Str):decide ((Sum.inl a:Key)=Sum.inr b)=false:=decide_eq_false (fun q=>nomatch q)
theorem zmE (a:Str) (b:Int):decide ((Sum.inr a:Key)=Sum.inl b)=false:=decide_eq_false (fun q=>nomatch q)
def zg0 (prog:Program) (w:World):PySem.KeyKind prog w Key where
 is:=zmC
 hash:=keyH w
 inj:=fun v a b ha hb=>by
  rcases zbm ha with ⟨i,t,rfl,rfl⟩ | ⟨x,t,rfl,rfl⟩
  .rcases zbm hb with ⟨j,u,rfl,e⟩ | ⟨y,u,rfl,e⟩
   .injection e with e1 _;rw[e1]
   .exact nomatch e
  .rcases zbm hb with ⟨j,u,rfl,e⟩ | ⟨y,u,rfl,e⟩
   .exact nomatch e
   .injection e with e1 _;rw[e1]
 byValue:=fun k v h=>by
  rcases zbm h with ⟨i,t,rfl,rfl⟩ | ⟨x,t,rfl,rfl⟩<;>rfl
 pyHash:=fun hv h=>by
  rcases zbm hv with ⟨i,t,rfl,rfl⟩ | ⟨x,t,rfl,rfl⟩
  .exact wpAny_pyHash_int h
  .exact wpAny_pyHash_str h
 eqBool:=fun hu hv h=>by
  rcases zbm hu with ⟨i,t,rfl,rfl⟩ | ⟨x,t,rfl,rfl⟩
  .rcases zbm hv with ⟨j,u,rfl,rfl⟩ | ⟨y,u,rfl,rfl⟩
   .rw[zmv] at h;exact wpAny_eqBool_int h
   .rw[zmX] at h;exact SeqAt.EqAt.int_str i t y u _ _ _ _ h
  .rcases zbm hv with ⟨j,u,rfl,rfl⟩ | ⟨y,u,rfl,rfl⟩
   .rw[zmE] at h;exact SeqAt.EqAt.str_int x t j u _ _ _ _ h
   .rw[zoa] at h;exact wpAny_eqBool_str h
 «strs»:=fun k x t v h=>by
  rcases zbm h with ⟨i,u,rfl,e⟩ | ⟨y,u,rfl,e⟩
  .exact nomatch e
  .injection e with e1 _
   subst e1
   cases v<;>rfl
inductive V where
 | non | bl (b:Bool) | int (i:Int) | str (x:Str) | byt (b:Array UInt8) | flt (b:UInt64) | ref (a:Addr) | ty (n:String)
 deriving DecidableEq
def RelV:V->Value->Prop
 | .non,u=>u=Value.none
 | .bl b,u=>u=Value.bool b
 | .int i,u=>∃t,u=Value.int i t
 | .str x,u=>∃t,u=Value.str x t
 | .byt b,u=>∃t,u=Value.bytes b t
 | .flt b,u=>∃t,u=Value.float b t
 | .ref a,u=>u=Value.ref a
 | .ty n,u=>u=Value.type n
abbrev Vals:List V->List Value->Prop:=Paired RelV
theorem Vals.length {xs:List V} {us:List Value} (r:Vals xs us):xs.length=us.length:=Paired.length r
theorem Vals.get:∀{xs:List V} {us:List Value} {i:Nat} {x:V},Vals xs us->xs[i]? = some x->∃u,us[i]? = some u/\RelV x u
 | _,_,_,_,.nil,e=>by simp at e
 | _,_,0,_,.cons r _,e=>by simp at e;subst e;exact ⟨_,rfl,r⟩
 | _,_,i+1,x,.cons _ t,e=>by
  obtain ⟨u,h1,h2⟩:=Vals.get (i:=i) (x:=x) t (by simpa using e);exact ⟨u,by simpa using h1,h2⟩
theorem Vals.set {x:V} {u:Value} (r:RelV x u):∀{xs:List V} {us:List Value} (i:Nat),Vals xs us->Vals (xs.set i x) (us.set i u)
 | _,_,_,.nil=>.nil
 | _,_,0,.cons _ t=>.cons r t
 | _,_,i+1,.cons q t=>.cons q (Vals.set r i t)
theorem Vals.append:∀{xs ys:List V} {us ws:List Value},Vals xs us->Vals ys ws->Vals (xs++ys) (us++ws)
 | _,_,_,_,.nil,s=>s
 | _,_,_,_,.cons r t,s=>.cons r (Vals.append t s)
theorem Vals.take:∀{xs:List V} {us:List Value} (n:Nat),Vals xs us->Vals (xs.take n) (us.take n)
 | _,_,0,_=>.nil
 | _,_,_+1,.nil=>.nil
 | _,_,n+1,.cons r t=>.cons r (Vals.take n t)
theorem Vals.drop:∀{xs:List V} {us:List Value} (n:Nat),Vals xs us->Vals (xs.drop n) (us.drop n)
 | _,_,0,r=>r
 | _,_,_+1,.nil=>.nil
 | _,_,n+1,.cons _ t=>Vals.drop n t
def RelO:Option V->Option Value->Prop
 | some v,some u=>RelV v u
 | none,none=>True
 | _,_=>False
def KV {κ:Type}:List (κ×V)->List (κ×Value)->Prop:=Paired fun (p:κ×V) (q:κ×Value)=>p.1=q.1/\RelV p.2 q.2
def kV:Key->V
 | .inl i=>.int i
 | .inr x=>.str x
inductive HO where
 /-- a list -/
 | lst (xs:List V)
 /-- a tuple (never changes) -/
 | tup (xs:List V)
 /-- a dict whose keys are ints and texts;one whose keys are tuples of ints and texts (the empty one is both) -/
 | dK (kvs:List (Key×V)) | dT (kvs:List (List Key×V))
 /-- a set of ints: its members,its size -/
 | set (S:Int->Bool) (n:Nat)
 /-- an instance of the class at C,its dict at dx,its attributes -/
 | ins (C dx:Addr) (fs:List (Str×V))
 /-- the dict of the instance at x -/
 | own (x:Addr)
 /-- the dict of an exception -/
 | xd (fs:List (Str×V))
 /-- a bound method,f of x -/
 | met (f x:Addr)
 /-- a range object lo,lo+1,.. below hi -/
 | rng (lo hi:Int)
 /-- a thing that is known to the object (the script;a dict while a loop walks it): read,never written while it is so -/
 | frz (o:Obj) (u:HO)
 /-- a code object's table -/
 | tbl (ps:Array Value)
 /-- any other thing,by what is true of its one object (a def of one's own: SetO a S n:=HO.ext fun h=>..) -/
 | ext (φ:Heap->Prop)
abbrev Hp:=Addr->Option HO
def upd (H:Hp) (a:Addr) (o:HO):Hp:=fun b=>if b=a then some o else H b
theorem zbu {H:Hp} {a:Addr} {o:HO}:upd H a o a=some o:=by unfold upd;rw[if_pos rfl]
theorem zaB {H:Hp} {a b:Addr} {o:HO} (h:b≠a):upd H a o b=H b:=by unfold upd;rw[if_neg h]
theorem zbg {H:Hp} {a b:Addr} {o:HO} (h:H a=some o) (h':H b=none):a≠b:=by
 intro e;subst e;rw[h] at h';cases h'
section
variable (P:Program) (w:World)
def ObjOk (H:Hp) (h:Heap) (a:Addr):HO->Prop
 | .lst xs=>xs.length<=sizeLine/\∃(its:List Value) (n:Nat),Vals xs its/\h.get? a=some { cls:=.type "list",data:=.seq its.toArray n }
 | .tup xs=>xs.length<=sizeLine/\∃its:List Value,Vals xs its/\IsTup h a its.toArray
 | .dK kvs=>kvs.length<=sizeLine/\(a==sysModules)=false/\∃vs,KV kvs vs/\h.DictOf (zg0 P w) a vs
 | .dT kvs=>kvs.length<=sizeLine/\(a==sysModules)=false/\∃xs:List (List Key×Addr×Value),
   Paired (fun (p:List Key×V) (q:List Key×Addr×Value)=>p.1=q.1/\H q.2.1=some (.tup (p.1.map kV))/\RelV p.2 q.2.2) kvs xs/\
   ∃o es ep,h.get? a=some o/\o.ExactDict/\o.data=.dict es ep/\es.toList=xs.map (entryOfKey (tupleKind (zg0 P w)))/\(xs.map (·.1)).Nodup
 | .set S n=>h.SetOf (intKind P w) a S n
 | .ins C dx fs=>H dx=some (.own a)/\fs.length<=1000/\dx≠a/\h.get? a=some (PySem.W.instObj C dx)/\
   ∃mA,h.Ns1 dx mA/\(∀f,RelO (fs.lookup f) (mA f))/\PySem.Within mA (fs.map (·.1))
 | .own _=>∃o,h.get? a=some o
 | .xd fs=>∃mA,h.Ns1 a mA/\∀f,RelO (fs.lookup f) (mA f)
 | .rng lo hi=>∃t u v,h.get? a=some { cls:=.type "range",data:=.fields #[.int lo t,.int hi u,.int 1 v] }
 | .frz o u=>h.get? a=some o/\ObjOk H h a u
 | .tbl ps=>h.get? a=some { cls:=.none,data:=.fields ps }
 | .met f x=>h.get? a=some (PySem.W.methodObj (.ref f) (.ref x))
 | .ext φ=>φ h/\(∃o,h.get? a=some o)/\∀h1 h2:Heap,φ h1->(∀o,h1.get? a=some o->h2.get? a=some o)->φ h2
def HOk (H:Hp) (h:Heap):Prop:=∀a o,H a=some o->ObjOk P w H h a o
end
section
variable {P:Program} {w:World} {H H':Hp} {h h':Heap} {a:Addr} {o:HO}
theorem ObjOk.lt (x:ObjOk P w H h a o):a < h.objs.size:=by
 cases o with
 | lst xs=>obtain ⟨_,_,_,_,e⟩:=x;exact Heap.lt_size e
 | tup xs=>obtain ⟨_,_,_,p⟩:=x;exact p.lt
 | dK kvs=>obtain ⟨_,_,_,_,o,_,_,e,_⟩:=x;exact Heap.lt_size e
 | dT kvs=>obtain ⟨_,_,_,_,o,_,_,e,_⟩:=x;exact Heap.lt_size e
 | set S n=>obtain ⟨o,_,_,_,e,_⟩:=x;exact Heap.lt_size e
 | ins C dx fs=>obtain ⟨_,_,_,e,_⟩:=x;exact Heap.lt_size e
 | own y=>obtain ⟨_,e⟩:=x;exact Heap.lt_size e
 | xd fs=>obtain ⟨_,⟨_,_,_,e,_⟩,_⟩:=x;exact Heap.lt_size e
 | rng lo hi=>obtain ⟨_,_,_,e⟩:=x;exact Heap.lt_size e
 | frz ob u=>obtain ⟨e,_⟩:=x;exact Heap.lt_size e
 | tbl ps=>exact Heap.lt_size (show h.get? a=some _ from x)
 | met f y=>exact Heap.lt_size (show h.get? a=some _ from x)
 | ext φ=>obtain ⟨_,⟨_,e⟩,_⟩:=x;exact Heap.lt_size e
theorem Paired.mapP {α β:Type} {F G:α->β->Prop} {l₁:List α} {l₂:List β} (h:Paired F l₁ l₂) (f:∀a b,F a b->G a b):Paired G l₁ l₂:=by
 induction h with
 | nil=>exact .nil
 | cons r t ih=>exact .cons (f _ _ r) ih
theorem ObjOk.stay (x:ObjOk P w H h a o) (k:∀b u,(b=a\/H b=some (.own a))->h.get? b=some u->h'.get? b=some u)
  (ho:∀b,H b=some (.own a)->H' b=some (.own a)) (ht:∀b xs,H b=some (.tup xs)->H' b=some (.tup xs)):ObjOk P w H' h' a o:=by
 induction o with
 | lst xs=>obtain ⟨z,its,n,r,e⟩:=x;exact ⟨z,its,n,r,k _ _ (.inl rfl) e⟩
 | tup xs=>obtain ⟨z,its,r,ob,e,c⟩:=x;exact ⟨z,its,r,ob,k _ _ (.inl rfl) e,c⟩
 | dK kvs=>obtain ⟨z,y,vs,r,ob,es,ep,e,c⟩:=x;exact ⟨z,y,vs,r,ob,es,ep,k _ _ (.inl rfl) e,c⟩
 | dT kvs=>
  obtain ⟨z,y,xs,r,ob,es,ep,e,c⟩:=x;exact ⟨z,y,xs,Paired.mapP r fun p q z=>⟨z.1,ht _ _ z.2.1,z.2.2⟩,ob,es,ep,k _ _ (.inl rfl) e,c⟩
 | set S n=>obtain ⟨ob,es,ep,t,e,c⟩:=x;exact ⟨ob,es,ep,t,k _ _ (.inl rfl) e,c⟩
 | ins C dx fs=>
  obtain ⟨d,z,ne,e,mA,⟨od,es,ep,e2,c⟩,r⟩:=x;exact ⟨ho _ d,z,ne,k _ _ (.inl rfl) e,mA,⟨od,es,ep,k _ _ (.inr d) e2,c⟩,r⟩
 | own y=>obtain ⟨ob,e⟩:=x;exact ⟨ob,k _ _ (.inl rfl) e⟩
 | xd fs=>obtain ⟨mA,⟨od,es,ep,e,c⟩,r⟩:=x;exact ⟨mA,⟨od,es,ep,k _ _ (.inl rfl) e,c⟩,r⟩
 | rng lo hi=>obtain ⟨t,u,v,e⟩:=x;exact ⟨t,u,v,k _ _ (.inl rfl) e⟩
 | frz ob u ih=>obtain ⟨e,q⟩:=x;exact ⟨k _ _ (.inl rfl) e,ih q⟩
 | tbl ps=>
  have e:h.get? a=some { cls:=.none,data:=.fields ps }:=x
  show h'.get? a=some { cls:=.none,data:=.fields ps }
  exact k a _ (.inl rfl) e
 | met f y=>
  have e:h.get? a=some (PySem.W.methodObj (.ref f) (.ref y)):=x
  show h'.get? a=some (PySem.W.methodObj (.ref f) (.ref y))
  exact k a _ (.inl rfl) e
 | ext φ=>obtain ⟨p,⟨o,e⟩,st⟩:=x;exact ⟨st _ _ p fun o q=>k _ _ (.inl rfl) q,⟨o,k _ _ (.inl rfl) e⟩,st⟩
theorem HOk.lt (x:HOk P w H h) (e:H a=some o):a < h.objs.size:=(x a o e).lt
theorem HOk.fresh (x:HOk P w H h) (e:h.objs.size<=a):H a=none:=by
 cases q:H a with
 | none=>rfl
 | some u=>exact absurd (Nat.lt_of_lt_of_le (x.lt q) e) (Nat.lt_irrefl _)
theorem HOk.kept (x:HOk P w H h) (k:∀b u,h.get? b=some u->h'.get? b=some u):HOk P w H h':=fun a o e=>
 (x a o e).stay (fun b u _ q=>k b u q) (fun _ q=>q) fun _ _ q=>q
theorem HOk.laid (x:HOk P w H h) (k:∀b u,h.get? b=some u->h'.get? b=some u) (hp:h.objs.size<=a) (new:ObjOk P w (upd H a o) h' a o):HOk P w (upd H a o) h':=fun b u e=>by
 have hn:=x.fresh hp
 by_cases hb:b=a
 .subst hb;rw[zbu] at e;cases e;exact new
 .rw[zaB hb] at e;exact (x b u e).stay (fun c v _ q=>k c v q) (fun c q=>by rw[zaB (zbg q hn)];exact q) fun c xs q=>by rw[zaB (zbg q hn)];exact q
end
def Rd (H:Hp) (a:Addr) (u:HO):Prop:=H a=some u\/∃o,H a=some (.frz o u)
theorem Rd.ok {P:Program} {w:World} {H:Hp} {h:Heap} {a:Addr} {u:HO} (r:Rd H a u) (x:HOk P w H h):ObjOk P w H h a u:=by
 rcases r with r | ⟨o,r⟩
 .exact x a u r
 .obtain ⟨_,q⟩:=x a _ r;exact q
def Mut:Option HO->Prop
 | some (.lst _)=>True
 | some (.dK _)=>True
 | some (.dT _)=>True
 | some (.set _ _)=>True
 | some (.ins _ _ _)=>True
 | some (.ext _)=>True
 | _=>False
section
variable {P:Program} {w:World} {H:Hp} {h h':Heap} {x e:Addr} {o':HO}
theorem HOk.write (ok:HOk P w H h) (mu:Mut (H x)) (he:e=x\/H e=some (.own x)) (k:∀b u,b≠e->h.get? b=some u->h'.get? b=some u) (heo:∃u,h'.get? e=some u)
  (new:ObjOk P w (upd H x o') h' x o'):HOk P w (upd H x o') h':=fun b u q=>by
 have nown:∀c y,H c=some (.own y)->c≠x:=fun c y r z=>by subst z;rw[r] at mu;exact mu
 have ntup:∀c xs,H c=some (.tup xs)->c≠x:=fun c xs r z=>by subst z;rw[r] at mu;exact mu
 by_cases hb:b=x
 .subst hb;rw[zbu] at q;cases q;exact new
 .rw[zaB hb] at q
  by_cases hbe:b=e
  .have q':H b=some (.own x):=by
    rcases he with z | z
    .exact absurd (hbe.trans z) hb
    .rw[hbe];exact z
   rw[q] at q';cases q';obtain ⟨v,hv⟩:=heo;exact ⟨v,by rw[hbe];exact hv⟩
  .refine (ok b u q).stay (fun c v hc r=>k c v ?_ r) (fun c r=>by rw[zaB (nown c b r)];exact r) fun c xs r=>by rw[zaB (ntup c xs r)];exact r
   rcases hc with rfl | hc
   .exact hbe
   .rintro rfl
    rcases he with z | z
    .exact nown c b hc z
    .rw[hc] at z;cases z;exact hb rfl
end
structure Un (fs ex:List Addr) (H H':Hp) (h h':Heap):Prop where
 keep:∀b o,h.get? b=some o->H b=none->b∉fs->b∉ex->h'.get? b=some o
 slot:∀b o,h.get? b=some o->H b=none->b∈fs->b∉ex->∃sl,h'.get? b=some { o with slots:=sl }
 free:∀b o,h.get? b=some o->H b=none->b∉ex->H' b=none
 there:∀b o,h.get? b=some o->b∉ex->∃o',h'.get? b=some o'
 tups:∀b xs,H b=some (.tup xs)->H' b=some (.tup xs)
 frzs:∀b o u,H b=some (.frz o u)->H' b=some (.frz o u)
 tbls:∀b ps,H b=some (.tbl ps)->∃more,H' b=some (.tbl (ps++more))
section
variable {fs fs' ex ex':List Addr} {H H1 H2:Hp} {h h1 h2 h':Heap} {a x e:Addr} {o:HO}
theorem Un.any (u:Un fs ex H H1 h h1) {b:Addr} {ob:Obj} (q:h.get? b=some ob) (n:H b=none) (hx:b∉ex):∃sl,h1.get? b=some { ob with slots:=sl }:=by
 by_cases hb:b∈fs
 .exact u.slot b ob q n hb hx
 .exact ⟨ob.slots,u.keep b ob q n hb hx⟩
theorem Un.trans (a:Un fs ex H H1 h h1) (b:Un fs ex H1 H2 h1 h2):Un fs ex H H2 h h2 where
 keep:=fun c ob q n hc hx=>b.keep c ob (a.keep c ob q n hc hx) (a.free c ob q n hx) hc hx
 slot:=fun c ob q n hc hx=>by
  obtain ⟨sl,e1⟩:=a.slot c ob q n hc hx;obtain ⟨sl',e2⟩:=b.slot c _ e1 (a.free c ob q n hx) hc hx;exact ⟨sl',e2⟩
 free:=fun c ob q n hx=>by
  obtain ⟨o',e1⟩:=a.there c ob q hx;exact b.free c o' e1 (a.free c ob q n hx) hx
 there:=fun c ob q hx=>by
  obtain ⟨o',e1⟩:=a.there c ob q hx;exact b.there c o' e1 hx
 tups:=fun c xs q=>b.tups c xs (a.tups c xs q)
 frzs:=fun c ob xs q=>b.frzs c ob xs (a.frzs c ob xs q)
 tbls:=fun c ps q=>by
  obtain ⟨m1,e1⟩:=a.tbls c ps q;obtain ⟨m2,e2⟩:=b.tbls c _ e1;exact ⟨m1++m2,by rw[e2,Array.append_assoc]⟩
theorem Un.kept (k:∀b u,h.get? b=some u->h'.get? b=some u):Un fs ex H H h h':=
 ⟨fun b ob q _ _ _=>k b ob q,fun b ob q _ _ _=>⟨ob.slots,k b ob q⟩,fun _ _ _ n _=>n,fun b ob q _=>⟨ob,k b ob q⟩,fun _ _ q=>q,fun _ _ _ q=>q,fun _ ps q=>⟨#[],by rw[q];simp⟩⟩
theorem Un.refl:Un fs ex H H h h:=Un.kept fun _ _ q=>q
theorem Un.laid (k:∀b u,h.get? b=some u->h'.get? b=some u) (hp:h.objs.size<=a) (hn:H a=none):Un fs ex H (upd H a o) h h' where
 keep:=fun b u q _ _ _=>k b u q
 slot:=fun b u q _ _ _=>⟨u.slots,k b u q⟩
 free:=fun b u q n _=>by rw[zaB (Nat.ne_of_lt (Nat.lt_of_lt_of_le (Heap.lt_size q) hp))];exact n
 there:=fun b u q _=>⟨u,k b u q⟩
 tups:=fun b xs q=>by rw[zaB (zbg q hn)];exact q
 frzs:=fun b u xs q=>by rw[zaB (zbg q hn)];exact q
 tbls:=fun b ps q=>⟨#[],by rw[zaB (zbg q hn),q];simp⟩
theorem Un.write (mu:Mut (H x)) (he:e=x\/H e=some (.own x)) (k:∀b u,b≠e->h.get? b=some u->h'.get? b=some u) (heo:∃u,h'.get? e=some u):Un fs ex H (upd H x o) h h':=by
 have hx:∀b,H b=none->b≠x:=fun b n z=>by subst z;rw[n] at mu;exact mu
 have hb:∀b,H b=none->b≠e:=fun b n z=>by
  subst z;rcases he with r | r
  .exact hx b n r
  .rw[n] at r;cases r
 have hm:∀b u,H b=some u->¬Mut (some u)->b≠x:=fun b u q nm z=>by subst z;rw[q] at mu;exact nm mu
 refine ⟨fun b u q n _ _=>k b u (hb b n) q,fun b u q n _ _=>⟨u.slots,k b u (hb b n) q⟩,fun b u q n _=>by rw[zaB (hx b n)];exact n,fun b u q _=>?_,
  fun b xs q=>by rw[zaB (hm b _ q fun z=>z)];exact q,fun b u xs q=>by rw[zaB (hm b _ q fun z=>z)];exact q,fun b ps q=>⟨#[],by rw[zaB (hm b _ q fun z=>z),q];simp⟩⟩
 by_cases hbe:b=e
 .subst hbe;exact heo
 .exact ⟨u,k b u hbe q⟩
theorem Un.mono (u:Un fs ex H H1 h h1) (hs:∀b∈fs,b∈fs') (hx:∀b∈ex,b∈ex'):Un fs' ex' H H1 h h1:=
 ⟨fun b ob q n hb he=>u.keep b ob q n (fun z=>hb (hs b z)) fun z=>he (hx b z),fun _ _ q n _ he=>u.any q n fun z=>he (hx _ z),fun b ob q n he=>u.free b ob q n fun z=>he (hx b z),fun b ob q he=>u.there b ob q fun z=>he (hx b z),u.tups,u.frzs,u.tbls⟩
end
def trk (h:Heap) (H:Hp):List Addr:=(List.range h.objs.size).filter fun a=>(H a).isSome
def hidT (h:Heap) (H:Hp):Heap:=PySem.W.hideAll h (trk h H)
theorem ziD (h:Heap) (H:Hp):(hidT h H).objs.size=h.objs.size:=PySem.W.hideAll_size _ _
theorem zjS {h:Heap} {H:Hp} {b:Addr} {o:Obj} (e:h.get? b=some o) (n:H b=none):(hidT h H).get? b=some o:=
 PySem.W.hideAll_get _ e fun hm=>by
  have q:(H b).isSome=true:=(List.mem_filter.mp hm).2;rw[n] at q;simp at q
theorem zl6 {h:Heap} {H:Hp} {b:Addr} {o:Obj} (e:(hidT h H).get? b=some o):h.get? b=some o/\H b=none:=by
 have e':h.get? b=some o:=PySem.W.of_hideAll (trk h H) e;refine ⟨e', ?_⟩
 cases q:H b with
 | none=>rfl
 | some x=>
  have hm:b∈trk h H:=List.mem_filter.mpr ⟨List.mem_range.mpr (Heap.lt_size e'),by simp[q]⟩;have z:(hidT h H).get? b=none:=PySem.W.hideAll_none (trk h H) hm;rw[z] at e;cases e
structure Mod (K:PySem.W.Frag) (mg:Str->Option Value) (base:Heap):Prop where
 kin:K.In base
 glob:base.Ns mainGlobals mg
 blt:∃mb,base.Ns builtinsNs mb/\∀x:Str,x≠"__name__"->mb x=bootBuiltins x
 nolimit:base.NoLimit
structure Cx where
 prog:Program
 w:World
 K:PySem.W.Frag
 mg:Str->Option Value
 base:Heap
 A:Around
 N:List Str
 s₀:Shared
 H₀:Hp
 env:Env
 outer:List Env
 stack:List Env
 ex:List Addr
 fn:Str->Bool
 calm:Bool
 pn:List (Addr×Obj)
 xe:Value->Shared->Prop
def frs (l:List Env):List Addr:=l.filterMap (·.frame)
abbrev Cx.fs (X:Cx):List Addr:=frs X.outer
def Vis (sc:Scope) (x:Str):Prop:=sc.names.lookup x=some .local\/sc.names.lookup x=some .cell\/sc.names.lookup x=some .free
def Loc (sc:Scope) (x:Str):Prop:=sc.names.lookup x=some .local\/sc.names.lookup x=some .cell
def Look (env:Env) (h:Heap) (m:Str->Option Value) (x:Str) (u:Value):Prop:=
 (env.kindOf x=some .local/\m x=some u)\/((env.kindOf x=some .cell\/env.kindOf x=some .free)/\∃c,env.cells.lookup x=some c/\h.IsCell c (some u))
structure Cx.Ok (X:Cx):Prop where
 mod:Mod X.K X.mg X.base
 kind:X.env.scope.kind=.function
 glob:X.env.globals=mainGlobals
 blt:X.env.builtins=builtinsNs
 above:X.s₀.heap.objs.size<=X.env.locals
 inj:∀x y c,X.env.cells.lookup x=some c->X.env.cells.lookup y=some c->x=y
 has:∀x,(X.env.kindOf x=some .cell\/X.env.kindOf x=some .free)->∃c,X.env.cells.lookup x=some c
 cab:∀x c,X.fn x=true->X.env.cells.lookup x=some c->X.s₀.heap.objs.size<=c
 hd:X.calm=true->X.A.handled=none
 frames:X.A.frames=some X.stack
 stk:X.stack=X.outer\/(X.stack=X.env::X.outer/\X.env.frame=some X.env.locals)
 exf:∀b∈X.ex,b≠X.env.locals/\∀x c,X.env.cells.lookup x=some c->c≠b
 bs:∀b o,X.base.get? b=some o->X.s₀.heap.get? b=some o/\X.H₀ b=none
 bsz:X.base.objs.size<=X.s₀.heap.objs.size
 noex:∀b o,X.base.get? b=some o->b∉X.ex
 exfs:∀b∈X.ex,b∉X.fs
 funs:X.s₀.heap.FunFrames X.base X.outer
 frf:∀b∈X.fs,X.H₀ b=none
structure Inv (X:Cx) (pins:List (Addr×Obj)) (σ:List (Option V)) (H:Hp) (s:Shared):Prop where
 ok:X.Ok
 os:s.os=X.s₀.os
 bare:AllBare s.gens
 base:Un X.fs X.ex X.H₀ H X.s₀.heap s.heap
 loc:∃m,s.heap.Ns X.env.locals m/\∀(i:Nat) (x:Str) (v:V),X.N[i]? = some x->σ[i]? = some (some v)->Vis X.env.scope x->∃u,RelV v u/\Look X.env s.heap m x u
 cell:∀x c,X.env.cells.lookup x=some c->∃v,s.heap.IsCell c v
 free:H X.env.locals=none
 freeC:∀x c,X.env.cells.lookup x=some c->H c=none
 pin:∀p∈X.pn++pins,s.heap.get? p.1=some p.2/\H p.1=none/\p.1≠X.env.locals/\p.1∉X.fs/\∀v,p.2.data≠.cell v
 hok:HOk X.prog X.w H s.heap
 len:σ.length=X.N.length
section
variable {X:Cx} {pins:List (Addr×Obj)} {σ:List (Option V)} {H H':Hp} {s:Shared} {h':Heap}
theorem Cx.Ok.nofr (ok:X.Ok) {b:Addr} {o:Obj} (e:X.base.get? b=some o):b∉X.fs:=fun hb=>by
 have:=(ok.funs.mem hb).1
 rw[e] at this;cases this
theorem Inv.bs (I:Inv X pins σ H s):∀b o,X.base.get? b=some o->s.heap.get? b=some o/\H b=none:=fun b o e=>
 ⟨I.base.keep b o (I.ok.bs b o e).1 (I.ok.bs b o e).2 (I.ok.nofr e) (I.ok.noex b o e),I.base.free b o (I.ok.bs b o e).1 (I.ok.bs b o e).2 (I.ok.noex b o e)⟩
theorem Inv.bk (I:Inv X pins σ H s):∀b o,X.base.get? b=some o->s.heap.get? b=some o:=fun b o e=>(I.bs b o e).1
theorem Inv.mod (I:Inv X pins σ H s):Mod X.K X.mg X.base:=I.ok.mod
theorem Inv.kIn (I:Inv X pins σ H s):X.K.In s.heap:=I.ok.mod.kin.keeps I.bk
theorem Inv.lt (I:Inv X pins σ H s):X.env.locals < s.heap.objs.size:=let ⟨_,hn,_⟩:=I.loc;hn.lt
theorem Inv.sz (I:Inv X pins σ H s):X.s₀.heap.objs.size<=s.heap.objs.size:=Nat.le_trans I.ok.above (Nat.le_of_lt I.lt)
theorem Inv.nofs (I:Inv X pins σ H s) {a:Addr} (h:s.heap.objs.size<=a):a∉X.fs:=fun hb=>by
 obtain ⟨_,o,ho,_⟩:=I.ok.funs.mem hb;exact absurd (Nat.lt_of_lt_of_le (Heap.lt_size ho) (Nat.le_trans I.sz h)) (Nat.lt_irrefl _)
theorem Inv.cne (I:Inv X pins σ H s):∀x c,X.env.cells.lookup x=some c->c≠X.env.locals:=fun x c e z=>by
 obtain ⟨v,o,ho,hd⟩:=I.cell x c e;obtain ⟨m,⟨o',es,ep,ho',hd',_⟩,_⟩:=I.loc;rw[z,ho'] at ho;cases ho;rw[hd'] at hd;cases hd
theorem Inv.funs (I:Inv X pins σ H s):s.heap.FunFrames X.base X.outer:=by
 have all:∀(l:List Env),(∀b∈frs l,b∈X.fs)->X.s₀.heap.FunFrames X.base l->s.heap.FunFrames X.base l:=by
  intro l
  induction l with
  | nil=>intro _ _;trivial
  | cons env r ih=>
   intro hs hl;obtain ⟨hk,⟨L,o,hf,hn,ho,hd⟩,hr⟩:=hl;have hL:L∈X.fs:=hs L (by unfold frs;rw[List.filterMap_cons,hf];exact List.mem_cons_self);obtain ⟨sl,e⟩:=I.base.slot L o ho (I.ok.frf L hL) hL fun z=>I.ok.exfs L z hL
   exact ⟨hk,⟨L,_,hf,hn,e,hd⟩,ih (fun b hb=>hs b (by unfold frs;rw[List.filterMap_cons,hf];exact List.mem_cons_of_mem _ hb)) hr⟩
 exact all X.outer (fun _ hb=>hb) I.ok.funs
theorem Inv.stack (I:Inv X pins σ H s):s.heap.FunFrames X.base X.stack:=by
 rcases I.ok.stk with e | ⟨e,hf⟩
 .rw[e];exact I.funs
 .rw[e];obtain ⟨m,hn,_⟩:=I.loc;refine .cons (by rw[I.ok.kind];decide) hf hn ?_ I.funs;exact Heap.get?_none_of_le (Nat.le_trans I.ok.bsz I.ok.above)
theorem Inv.stkSub (I:Inv X pins σ H s):∀b∈frs X.stack,b∈X.env.locals::X.fs:=fun b hb=>by
 rcases I.ok.stk with e | ⟨e,hf⟩
 .rw[e] at hb;exact List.mem_cons_of_mem _ hb
 .rw[e] at hb;unfold frs at hb;rw[List.filterMap_cons,hf] at hb;exact hb
theorem Inv.stkFree (I:Inv X pins σ H s):∀b∈frs X.stack,H b=none:=fun b hb=>by
 rcases List.mem_cons.mp (I.stkSub b hb) with e | hb
 .rw[e];exact I.free
 .obtain ⟨_,o,ho,_⟩:=I.ok.funs.mem hb;exact I.base.free b o ho (I.ok.frf b hb) fun z=>I.ok.exfs b z hb
theorem Inv.step {g':Array GenState} {t':Nat} {d':Drawn} {ch:List Addr} (I:Inv X pins σ H s)
  (hch:∀b∈ch,(b∈X.ex\/X.s₀.heap.objs.size<=b)/\b≠X.env.locals/\(∀x c,X.env.cells.lookup x=some c->c≠b)/\∀p∈X.pn++pins,p.1≠b)
  (keep:∀b o,b≠X.env.locals->b∉X.fs->b∉ch->s.heap.get? b=some o->H b=none->h'.get? b=some o)
  (slot:∀b o,b≠X.env.locals->b∈X.fs->b∉ch->s.heap.get? b=some o->H b=none->∃sl,h'.get? b=some { o with slots:=sl }) (free:∀b o,b∉ch->s.heap.get? b=some o->H b=none->H' b=none)
  (there:∀b o,b∉ch->s.heap.get? b=some o->∃o',h'.get? b=some o')
  (tups:∀b xs,H b=some (.tup xs)->H' b=some (.tup xs)) (frzs:∀b o u,H b=some (.frz o u)->H' b=some (.frz o u)) (tbls:∀b ps,H b=some (.tbl ps)->∃more,H' b=some (.tbl (ps++more)))
  (ns:∀m,s.heap.Ns X.env.locals m->h'.Ns X.env.locals m) (hok:HOk X.prog X.w H' h') (hg:AllBare g') :
  Inv X pins σ H' { s with heap:=h',gens:=g',drawn:=d',toks:=t' }:=by
 have neL:∀b o,X.s₀.heap.get? b=some o->b≠X.env.locals:=fun b o e=>Nat.ne_of_lt (Nat.lt_of_lt_of_le (Heap.lt_size e) I.ok.above)
 have neC:∀b o,X.s₀.heap.get? b=some o->b∉X.ex->b∉ch:=fun b o e hx hb=>by
  rcases (hch b hb).1 with z | z
  .exact hx z
  .exact absurd (Nat.lt_of_lt_of_le (Heap.lt_size e) z) (Nat.lt_irrefl _)
 have cellK:∀x c,X.env.cells.lookup x=some c->∀v,s.heap.IsCell c v->h'.IsCell c v:=fun x c e v hx__=>by
  obtain ⟨o,ho,hd⟩:=hx__;have nch:c∉ch:=fun z=>(hch c z).2.2.1 x c e rfl
  by_cases hc:c∈X.fs
  .obtain ⟨sl,q⟩:=slot c o (I.cne x c e) hc nch ho (I.freeC x c e);exact ⟨_,q,hd⟩
  .exact ⟨o,keep c o (I.cne x c e) hc nch ho (I.freeC x c e),hd⟩
 refine ⟨I.ok,I.os,hg,⟨fun b o e n hb hx=>?_,fun b o e n hb hx=>?_,fun b o e n hx=>?_,fun b o e hx=>?_,fun b xs e=>tups b xs (I.base.tups b xs e),fun b o xs e=>frzs b o xs (I.base.frzs b o xs e),fun b ps e=>?_⟩, ?_,fun x c e=>?_, ?_,fun x c e=>?_,fun p hp=>?_,hok,I.len⟩
 .exact keep b o (neL b o e) hb (neC b o e hx) (I.base.keep b o e n hb hx) (I.base.free b o e n hx)
 .obtain ⟨sl,e1⟩:=I.base.slot b o e n hb hx;obtain ⟨sl',e2⟩:=slot b _ (neL b o e) hb (neC b o e hx) e1 (I.base.free b o e n hx);exact ⟨sl',e2⟩
 .obtain ⟨o',e1⟩:=I.base.there b o e hx;exact free b o' (neC b o e hx) e1 (I.base.free b o e n hx)
 .obtain ⟨o',e1⟩:=I.base.there b o e hx;exact there b o' (neC b o e hx) e1
 .obtain ⟨m1,e1⟩:=I.base.tbls b ps e;obtain ⟨m2,e2⟩:=tbls b _ e1;exact ⟨m1++m2,by rw[e2,Array.append_assoc]⟩
 .obtain ⟨m,hn,hl⟩:=I.loc;refine ⟨m,ns m hn,fun i x v e1 e2 e3=>?_⟩;obtain ⟨u,r,l⟩:=hl i x v e1 e2 e3;refine ⟨u,r, ?_⟩;rcases l with l | ⟨k,c,e,z⟩
  .exact .inl l
  .exact .inr ⟨k,c,e,cellK x c e _ z⟩
 .obtain ⟨v,z⟩:=I.cell x c e;exact ⟨v,cellK x c e v z⟩
 .obtain ⟨m,⟨o,_,_,ho,_⟩,_⟩:=I.loc;exact free _ o (fun z=>(hch _ z).2.1 rfl) ho I.free
 .obtain ⟨v,o,ho,hd⟩:=I.cell x c e;exact free c o (fun z=>(hch c z).2.2.1 x c e rfl) ho (I.freeC x c e)
 .obtain ⟨e,n,ne,nf,d⟩:=I.pin p hp;have nch:p.1∉ch:=fun z=>(hch p.1 z).2.2.2 p hp rfl
  exact ⟨keep p.1 p.2 ne nf nch e n,free p.1 p.2 nch e n,ne,nf,d⟩
theorem Inv.un {t':Nat} (I:Inv X pins σ H s) (u:Un X.fs [] H H' s.heap h') (hok:HOk X.prog X.w H' h'):Inv X pins σ H' { s with heap:=h',toks:=t' }:=by
 obtain ⟨m,⟨o,es,ep,ho,r⟩,_⟩:=id I.loc;obtain ⟨sl,hL⟩:=u.any ho I.free (by simp);exact I.step (g':=s.gens) (d':=s.drawn) (ch:=[]) (fun _ z=>nomatch z) (fun b o _ hb _ e n=>u.keep b o e n hb (by simp)) (fun b o _ hb _ e n=>u.slot b o e n hb (by simp)) (fun b o _ e n=>u.free b o e n (by simp)) (fun b o _ e=>u.there b o e (by simp)) u.tups u.frzs u.tbls (fun m' hm=>by
  obtain ⟨o',es',ep',ho',r'⟩:=hm;rw[ho] at ho';cases ho';exact ⟨_,es',ep',hL,r'⟩) hok I.bare
theorem Inv.call {g':Array GenState} {t':Nat} {d':Drawn} {ch:List Addr} (I:Inv X pins σ H s) (u:Un (frs X.stack) ch H H' s.heap h') (hok:HOk X.prog X.w H' h') (hg:AllBare g')
  (hch:∀b∈ch,(b∈X.ex\/X.s₀.heap.objs.size<=b)/\b≠X.env.locals/\(∀x c,X.env.cells.lookup x=some c->c≠b)/\∀p∈X.pn++pins,p.1≠b) :
  Inv X pins σ H' { s with heap:=h',gens:=g',drawn:=d',toks:=t' }:=by
 obtain ⟨m,⟨o,es,ep,ho,r⟩,_⟩:=id I.loc;obtain ⟨sl,hL⟩:=u.any ho I.free fun z=>(hch _ z).2.1 rfl
 exact I.step (ch:=ch) hch (fun b o hL hb hc e n=>u.keep b o e n (fun z=>(List.mem_cons.mp (I.stkSub b z)).elim hL hb) hc) (fun b o _ _ hc e n=>u.any e n hc) (fun b o hc e n=>u.free b o e n hc) (fun b o hc e=>u.there b o e hc) u.tups u.frzs u.tbls (fun m' hm=>by
  obtain ⟨o',es',ep',ho',r'⟩:=hm;rw[ho] at ho';cases ho';exact ⟨_,es',ep',hL,r'⟩) hok hg
theorem Inv.turned {t':Nat} {it:Addr} (I:Inv X pins σ H s) (k:∀b o,b≠it->s.heap.get? b=some o->h'.get? b=some o) (hn:H it=none) (hL:it≠X.env.locals)
  (h1:it∈X.ex\/X.s₀.heap.objs.size<=it) (h2:∀x c,X.env.cells.lookup x=some c->c≠it) (h3:∀p∈X.pn++pins,p.1≠it):Inv X pins σ H { s with heap:=h',toks:=t' }:=by
 have nit:∀b u,H b=some u->b≠it:=fun b u e z=>by rw[z,hn] at e;cases e
 refine I.step (g':=s.gens) (d':=s.drawn) (ch:=[it]) (fun b hb=>?_) (fun b o _ _ hc e _=>k b o (fun z=>hc (by simp[z])) e) (fun b o _ _ hc e _=>⟨o.slots,k b o (fun z=>hc (by simp[z])) e⟩) (fun _ _ _ _ n=>n)
  (fun b o hc e=>⟨o,k b o (fun z=>hc (by simp[z])) e⟩) (fun _ _ e=>e) (fun _ _ _ e=>e) (fun b ps e=>⟨#[],by rw[e];simp⟩) (fun m hm=>?_) (fun b u e=>?_) I.bare
 .have e:b=it:=by simpa using hb
  subst e;exact ⟨h1,hL,h2,h3⟩
 .obtain ⟨o,es,ep,ho,r⟩:=hm;exact ⟨o,es,ep,k _ o (Ne.symm hL) ho,r⟩
 .refine (I.hok b u e).stay (fun c v hc q=>k c v ?_ q) (fun _ q=>q) fun _ _ q=>q
  rcases hc with z | z
  .rw[z];exact nit b u e
  .exact nit c _ z
theorem Inv.tok (I:Inv X pins σ H s) (t:Nat):Inv X pins σ H { s with toks:=t }:=I.un (h':=s.heap) (t':=t) Un.refl I.hok
theorem Inv.kept {t':Nat} (I:Inv X pins σ H s) (k:∀b u,s.heap.get? b=some u->h'.get? b=some u):Inv X pins σ H { s with heap:=h',toks:=t' }:=I.un (Un.kept k) (I.hok.kept k)
theorem Inv.laid {a:Addr} {o:HO} {t':Nat} (I:Inv X pins σ H s) (k:∀b u,s.heap.get? b=some u->h'.get? b=some u) (hp:s.heap.objs.size<=a) (new:ObjOk X.prog X.w (upd H a o) h' a o) :
  Inv X pins σ (upd H a o) { s with heap:=h',toks:=t' }:=I.un (Un.laid k hp (I.hok.fresh hp)) (I.hok.laid k hp new)
theorem Inv.write {x e:Addr} {o:HO} {t':Nat} (I:Inv X pins σ H s) (mu:Mut (H x)) (he:e=x\/H e=some (.own x)) (k:∀b u,b≠e->s.heap.get? b=some u->h'.get? b=some u) (heo:∃u,h'.get? e=some u)
  (new:ObjOk X.prog X.w (upd H x o) h' x o):Inv X pins σ (upd H x o) { s with heap:=h',toks:=t' }:=I.un (Un.write mu he k heo) (I.hok.write mu he k heo new)
theorem Inv.weak {σ':List (Option V)} (I:Inv X pins σ H s) (hl:σ'.length=σ.length) (w:∀(i:Nat) v,σ'[i]? = some (some v)->σ[i]? = some (some v)):Inv X pins σ' H s:=
 ⟨I.ok,I.os,I.bare,I.base,let ⟨m,hn,hl'⟩:=I.loc;⟨m,hn,fun i x v e1 e2 e3=>hl' i x v e1 (w i v e2) e3⟩,I.cell,I.free,I.freeC,I.pin,I.hok,hl.trans I.len⟩
theorem Inv.pins_of {pins':List (Addr×Obj)} (I:Inv X pins σ H s) (h:∀p∈pins',s.heap.get? p.1=some p.2/\H p.1=none/\p.1≠X.env.locals/\p.1∉X.fs/\∀v,p.2.data≠.cell v):Inv X pins' σ H s:=
 ⟨I.ok,I.os,I.bare,I.base,I.loc,I.cell,I.free,I.freeC,fun p hp=>(List.mem_append.mp hp).elim (fun z=>I.pin p (List.mem_append_left _ z)) (h p),I.hok,I.len⟩
theorem zhK {N:List Str} (hN:N.Nodup) {i j:Nat} {x:Str} (a:N[i]? = some x) (b:N[j]? = some x):i=j:=by
 obtain ⟨h1,e1⟩:=List.getElem?_eq_some_iff.mp a;obtain ⟨h2,e2⟩:=List.getElem?_eq_some_iff.mp b;exact (List.getElem_inj hN).mp (e1.trans e2.symm)
theorem zgb {M:Model} {A:Around} {E:Value->Shared->Prop} {i:Nat} {x:Str} {v:V} {u:Value} {Q:Unit->Shared->Prop} (I:Inv X pins σ H s) (hN:X.N.Nodup) (hi:X.N[i]? = some x) (hx:Loc X.env.scope x) (r:RelV v u)
  (h:∀s',Inv X pins (σ.set i (some v)) H s'->(∃a,Heap.SameBut a s.heap s'.heap/\(a=X.env.locals\/X.env.cells.lookup x=some a))->Q () s') (hf:X.fn x=true\/X.env.scope.names.lookup x=some .local:=by first | exact .inl rfl | exact .inr rfl | assumption):wpAny M A (storeName X.env x u) Q E s:=by
 obtain ⟨m,hn,hl⟩:=id I.loc;have hcls:(X.env.scope.kind==.class || (X.env.scope.kind==.module&&X.env.locals != X.env.globals))=false:=by rw[I.ok.kind];rfl
 have hiσ:i < σ.length:=by rw[I.len];exact (List.getElem?_eq_some_iff.mp hi).1
 have cne:=I.cne;have tracked:∀{a:Addr} {h':Heap},(∃o,s.heap.get? a=some o/\H a=none)->Heap.SameBut a s.heap h'->HOk X.prog X.w H h':=fun {a h'} ha hs b ob e=>by
  obtain ⟨_,_,hfree⟩:=ha;refine (I.hok b ob e).stay (fun c w' hc q=>(hs.2 c ?_).trans q) (fun _ q=>q) fun _ _ q=>q
  rintro rfl
  rcases hc with rfl | hc
  .rw[hfree] at e;cases e
  .rw[hfree] at hc;cases hc
 rcases hx with hk | hk
 .refine wpAny_storeName_local hk hn (fun h' hn' hs=>?_) hcls;obtain ⟨oL,_,_,hoL,_⟩:=id hn;refine h _ ⟨I.ok,I.os,I.bare,⟨fun b o e n hb hx=>?_,fun b o e n hb hx=>?_,I.base.free,fun b o e hx=>?_,I.base.tups,I.base.frzs,I.base.tbls⟩,⟨_,hn',fun j y v' e1 e2 e3=>?_⟩,fun y c e=>?_,I.free,I.freeC,fun p hp=>?_,tracked ⟨oL,hoL,I.free⟩ hs,by simpa using I.len⟩ ⟨_,hs,.inl rfl⟩
  .exact (hs.2 b (Nat.ne_of_lt (Nat.lt_of_lt_of_le (Heap.lt_size e) I.ok.above))).trans (I.base.keep b o e n hb hx)
  .obtain ⟨sl,e1⟩:=I.base.slot b o e n hb hx;exact ⟨sl,(hs.2 b (Nat.ne_of_lt (Nat.lt_of_lt_of_le (Heap.lt_size e) I.ok.above))).trans e1⟩
  .obtain ⟨o',e1⟩:=I.base.there b o e hx;exact ⟨o',(hs.2 b (Nat.ne_of_lt (Nat.lt_of_lt_of_le (Heap.lt_size e) I.ok.above))).trans e1⟩
  .by_cases hj:j=i
   .subst hj;rw[hi] at e1;cases e1;rw[List.getElem?_set_self hiσ] at e2;cases e2;exact ⟨u,r,.inl ⟨hk,by simp⟩⟩
   .rw[List.getElem?_set_ne (Ne.symm hj)] at e2;obtain ⟨u',r',q⟩:=hl j y v' e1 e2 e3;refine ⟨u',r', ?_⟩;rcases q with ⟨k,e⟩ | ⟨k,c,e,z⟩
    .refine .inl ⟨k, ?_⟩
     have:y≠x:=fun e=>hj (zhK hN e1 (e ▸ hi))
     simp[this,e]
    .exact .inr ⟨k,c,e,z.sameBut hs (cne y c e)⟩
  .obtain ⟨w',z⟩:=I.cell y c e;exact ⟨w',z.sameBut hs (cne y c e)⟩
  .obtain ⟨e,n,ne,nf,d⟩:=I.pin p hp;exact ⟨(hs.2 p.1 ne).trans e,n,ne,nf,d⟩
 .have hfn:X.fn x=true:=by
   rcases hf with z | z
   .exact z
   .rw[z] at hk;cases hk
  obtain ⟨c,hc⟩:=I.ok.has x (.inl hk);obtain ⟨w',z⟩:=I.cell x c hc;refine wpAny_storeName_cell I.ok.kind hk hc z (fun h' hc' hs=>?_);obtain ⟨oc,hoc,hocd⟩:=id z;refine h { s with heap:=h' } ⟨I.ok,I.os,I.bare,⟨fun b o e n hb hx=>?_,fun b o e n hb hx=>?_,I.base.free,fun b o e hx=>?_,I.base.tups,I.base.frzs,I.base.tbls⟩,⟨m,hn.sameBut hs (Ne.symm (cne x c hc)),fun j y v' e1 e2 e3=>?_⟩,fun y c' e=>?_,I.free,I.freeC,fun p hp=>?_,tracked ⟨oc,hoc,I.freeC x c hc⟩ hs,by simpa using I.len⟩ ⟨c,hs,.inr hc⟩
  .exact (hs.2 b (Nat.ne_of_lt (Nat.lt_of_lt_of_le (Heap.lt_size e) (I.ok.cab x c hfn hc)))).trans (I.base.keep b o e n hb hx)
  .obtain ⟨sl,e1⟩:=I.base.slot b o e n hb hx;exact ⟨sl,(hs.2 b (Nat.ne_of_lt (Nat.lt_of_lt_of_le (Heap.lt_size e) (I.ok.cab x c hfn hc)))).trans e1⟩
  .obtain ⟨o',e1⟩:=I.base.there b o e hx;exact ⟨o',(hs.2 b (Nat.ne_of_lt (Nat.lt_of_lt_of_le (Heap.lt_size e) (I.ok.cab x c hfn hc)))).trans e1⟩
  .by_cases hj:j=i
   .subst hj;rw[hi] at e1;cases e1;rw[List.getElem?_set_self hiσ] at e2;cases e2;exact ⟨u,r,.inr ⟨.inl hk,c,hc,hc'⟩⟩
   .rw[List.getElem?_set_ne (Ne.symm hj)] at e2;obtain ⟨u',r',q⟩:=hl j y v' e1 e2 e3;refine ⟨u',r', ?_⟩;rcases q with q | ⟨k,c',e,z'⟩
    .exact .inl q
    .refine .inr ⟨k,c',e,z'.sameBut hs ?_⟩
     rintro rfl
     exact hj (zhK hN e1 (I.ok.inj _ _ _ e hc ▸ hi))
  .by_cases hcc:c'=c
   .subst hcc;exact ⟨_,hc'⟩
   .obtain ⟨w2,z2⟩:=I.cell y c' e;exact ⟨w2,z2.sameBut hs hcc⟩
  .obtain ⟨e,n,ne,nf,d⟩:=I.pin p hp;refine ⟨(hs.2 p.1 ?_).trans e,n,ne,nf,d⟩;intro q;rw[q,hoc] at e;have q':oc=p.2:=Option.some.inj e;exact d w' (by rw[<-q'];exact hocd)
theorem zhA {M:Model} {A:Around} {E:Value->Shared->Prop} {i:Nat} {x:Str} {v:V} {u:Value} {Q:Unit->Shared->Prop} (I:Inv X pins σ H s) (hN:X.N.Nodup) (hi:X.N[i]? = some x) (hx:Loc X.env.scope x) (r:RelV v u)
  (h:∀s',Inv X pins (σ.set i (some v)) H s'->Q () s') (hf:X.fn x=true\/X.env.scope.names.lookup x=some .local:=by first | exact .inl rfl | exact .inr rfl | assumption):wpAny M A (storeName X.env x u) Q E s:=
 zgb I hN hi hx r (fun s' I' _=>h s' I') hf
theorem Inv.call' {s':Shared} {ch:List Addr} (I:Inv X pins σ H s) (ho:s'.os=s.os) (u:Un (frs X.stack) ch H H' s.heap s'.heap) (hok:HOk X.prog X.w H' s'.heap) (hg:AllBare s'.gens)
  (hch:∀b∈ch,(b∈X.ex\/X.s₀.heap.objs.size<=b)/\b≠X.env.locals/\(∀x c,X.env.cells.lookup x=some c->c≠b)/\∀p∈X.pn++pins,p.1≠b):Inv X pins σ H' s':=by
 obtain ⟨h',g',d',t',o'⟩:=s';have e:o'=s.os:=ho;subst e;exact I.call (g':=g') (t':=t') (d':=d') u hok hg hch
end
abbrev XK:=Value->Option Addr->Hp->Prop
abbrev St:=List (Option V)
abbrev VK:=V->Hp->Prop
abbrev TE:=St->Hp->VK->Prop
abbrev TT:=St->Hp->(Bool->Hp->Prop)->Prop
abbrev TA:=St->Hp->(List V->Hp->Prop)->Prop
structure Ends where
 nx:St->Hp->Prop
 rt:VK
 bk:St->Hp->Prop:=fun _ _=>False
 ct:St->Hp->Prop:=fun _ _=>False
abbrev TS:=Ends->St->Hp->Prop
def EP (X:Cx) (pins:List (Addr×Obj)) (σ:St) (Q:VK) (u:Value) (s':Shared):Prop:=∃v H',Inv X pins σ H' s'/\RelV v u/\Q v H'
def TP (X:Cx) (pins:List (Addr×Obj)) (σ:St) (Q:Bool->Hp->Prop) (b:Bool) (s':Shared):Prop:=∃H',Inv X pins σ H' s'/\Q b H'
def AP (X:Cx) (pins:List (Addr×Obj)) (σ:St) (Q:List V->Hp->Prop) (us:List Value) (s':Shared):Prop:=∃vs H',Inv X pins σ H' s'/\Vals vs us/\Q vs H'
def SP (X:Cx) (pins:List (Addr×Obj)) (D:Ends) (f:Flow) (s':Shared):Prop:=
 match f with
 | .next=>∃σ' H',Inv X pins σ' H' s'/\D.nx σ' H'
 | .brk=>∃σ' H',Inv X pins σ' H' s'/\D.bk σ' H'
 | .cont=>∃σ' H',Inv X pins σ' H' s'/\D.ct σ' H'
 | .ret u=>∃v σ' H',Inv X pins σ' H' s'/\RelV v u/\D.rt v H'
def PE (X:Cx) (e:Expr) (t:TE):Prop:=
 ∀(pins:List (Addr×Obj)) (s:Shared) (σ:St) (H:Hp) (Q:VK),Inv X pins σ H s->t σ H Q->wpAny (model X.prog X.w) X.A (eval e X.env) (EP X pins σ Q) X.xe s
def PT (X:Cx) (e:Expr) (t:TT):Prop:=
 ∀(pins:List (Addr×Obj)) (s:Shared) (σ:St) (H:Hp) (Q:Bool->Hp->Prop),Inv X pins σ H s->t σ H Q->wpAny (model X.prog X.w) X.A (isTrue e X.env (eval e X.env)) (TP X pins σ Q) X.xe s
def PW (X:Cx) (e:Expr) (t:TT):Prop:=
 ∀(whole:Sem Value) (pins:List (Addr×Obj)) (s:Shared) (σ:St) (H:Hp) (Q:Bool->Hp->Prop),Inv X pins σ H s->t σ H Q->wpAny (model X.prog X.w) X.A (isTrue e X.env whole) (TP X pins σ Q) X.xe s
theorem PW.pt {X:Cx} {e:Expr} {t:TT} (h:PW X e t):PT X e t:=h _
def PA (X:Cx) (es:List Expr) (t:TA):Prop:=
 ∀(pos:Pos) (pins:List (Addr×Obj)) (s:Shared) (σ:St) (H:Hp) (Q:List V->Hp->Prop),Inv X pins σ H s->t σ H Q->wpAny (model X.prog X.w) X.A (spliced (backTo pos (starEach es X.env))) (AP X pins σ Q) X.xe s
def PS (X:Cx) (st:Stmt) (t:TS):Prop:=
 ∀(pins:List (Addr×Obj)) (s:Shared) (σ:St) (H:Hp) (D:Ends),Inv X pins σ H s->t D σ H->wpAny (model X.prog X.w) X.A (exec st X.env) (SP X pins D) X.xe s
def PSs (X:Cx) (st:List Stmt) (t:TS):Prop:=
 ∀(pins:List (Addr×Obj)) (s:Shared) (σ:St) (H:Hp) (D:Ends),Inv X pins σ H s->t D σ H->wpAny (model X.prog X.w) X.A (execs st X.env) (SP X pins D) X.xe s
theorem thn {α:Type} {t:Sem α} {Q Q':α->Shared->Prop} {M:Model} {A:Around} {E:Value->Shared->Prop} {s:Shared} (h:wpAny M A t Q E s) (hQ:∀a s,Q a s->Q' a s):wpAny M A t Q' E s:=wpAny_mono h hQ fun _ _ x=>x
section
variable {X:Cx}
def tVar (i:Nat):TE:=fun σ H Q=>∃v,σ[i]? = some (some v)/\Q v H
def tC (v:V):TE:=fun _ H Q=>Q v H
theorem zmq {i:Nat} {x:Str} {pos:Pos} (hN:X.N[i]? = some x) (hv:Vis X.env.scope x) (hd:(x==("__debug__":Str))=false:=by decide) (hcd:(x==("__classdict__":Str))=false:=by decide):PE X (.Name x pos) (tVar i):=by
 intro pins s σ H Q I h;obtain ⟨v,e,h⟩:=h;obtain ⟨m,hn,hl⟩:=I.loc;obtain ⟨u,r,l⟩:=hl i x v hN e hv;have fin:EP X pins σ Q u s:=⟨v,H,I,r,h⟩;rcases l with ⟨hk,hm⟩ | ⟨hk,c,hc,hcell⟩
 .exact wpAny_Name (wpAny_loadName_local I.ok.kind hk hn hm fin) hd
 .rcases hk with hk | hk
  .exact wpAny_Name (wpAny_loadName_cell I.ok.kind hk hc hcell fin) hd
  .exact wpAny_Name (wpAny_loadName_free I.ok.kind hk hc hcell fin hcd) hd
theorem zkV {i j pos}:PE X (.Constant (.int i) j pos) (tC (.int i)):=fun _ _ _ H _ I h=>wpAny_Constant_int ⟨.int i,H,I.tok _,⟨_,rfl⟩,h⟩
theorem zoT {b j pos}:PE X (.Constant (.bool b) j pos) (tC (.bl b)):=fun _ _ _ H _ I h=>Constant_bool ⟨.bl b,H,I,rfl,h⟩
theorem zbw {j pos}:PE X (.Constant .none j pos) (tC .non):=fun _ _ _ H _ I h=>Constant_none ⟨.non,H,I,rfl,h⟩
def Gl (X:Cx) (x:Str):Prop:=X.env.kindOf x=some .globalImplicit
theorem ziH {E:Value->Shared->Prop} {pins:List (Addr×Obj)} {s:Shared} {σ:St} {H:Hp} {x:Str} {u:Value} {pos:Pos} {Q:Value->Shared->Prop} (I:Inv X pins σ H s) (hg:Gl X x) (hm:X.mg x=some u) (h:Q u s)
  (hd:(x==("__debug__":Str))=false:=by decide):wpAny (model X.prog X.w) X.A (eval (.Name x pos) X.env) Q E s:=
 Calls.Name_function_global I.ok.kind hg (Calls.loadGlobal_global (by rw[I.ok.glob];exact I.mod.glob.keeps I.bk) hm h) hd
theorem zfx {E:Value->Shared->Prop} {pins:List (Addr×Obj)} {s:Shared} {σ:St} {H:Hp} {x:Str} {u:Value} {pos:Pos} {Q:Value->Shared->Prop} (I:Inv X pins σ H s) (hg:Gl X x) (hm:X.mg x=none) (hv:bootBuiltins x=some u) (h:Q u s)
  (hn:x≠"__name__":=by decide) (hd:(x==("__debug__":Str))=false:=by decide):wpAny (model X.prog X.w) X.A (eval (.Name x pos) X.env) Q E s:=by
 obtain ⟨mb,h1,h2⟩:=I.mod.blt;exact Calls.Name_function_global I.ok.kind hg (Calls.loadGlobal_builtin (by rw[I.ok.glob];exact I.mod.glob.keeps I.bk) hm (by rw[I.ok.blt];exact h1.keeps I.bk) ((h2 x hn).trans hv) h) hd
theorem zlc {x:Str} {v:V} {u:Value} {pos:Pos} (hg:Gl X x) (hm:X.mg x=some u) (r:RelV v u) (hd:(x==("__debug__":Str))=false:=by decide):PE X (.Name x pos) (tC v):=
 fun _ _ _ H _ I h=>ziH I hg hm ⟨v,H,I,r,h⟩ hd
theorem zfy {x:Str} {v:V} {u:Value} {pos:Pos} (hg:Gl X x) (hm:X.mg x=none) (hv:bootBuiltins x=some u) (r:RelV v u) (hn:x≠"__name__":=by decide) (hd:(x==("__debug__":Str))=false:=by decide):PE X (.Name x pos) (tC v):=
 fun _ _ _ H _ I h=>zfx I hg hm hv ⟨v,H,I,r,h⟩ hn hd
variable {a b:Expr} {ta tb:TE} {pos:Pos}
variable {tA tB':TT} {rest:List Expr}
def tAnd (t u:TT):TT:=fun σ H Q=>t σ H fun c H1=>if c=true then u σ H1 Q else Q false H1
def tOr (t u:TT):TT:=fun σ H Q=>t σ H fun c H1=>if c=true then Q true H1 else u σ H1 Q
def tNot (t:TT):TT:=fun σ H Q=>t σ H fun c H1=>Q (!c) H1
theorem zlh (ha:PT X a tA):PW X (.BoolOp .And [a] pos) tA:=by
 intro wh pins s σ H Q I h;refine isTrue_and (thn (ha pins s σ H Q I h) fun c s1 e=>?_)
 cases c with
 | true=>exact isTrue_and_nil e
 | false=>exact e
theorem znl (ha:PT X a tA):PW X (.BoolOp .Or [a] pos) tA:=by
 intro wh pins s σ H Q I h;refine isTrue_or (thn (ha pins s σ H Q I h) fun c s1 e=>?_)
 cases c with
 | false=>exact isTrue_or_nil e
 | true=>exact e
theorem znT (ha:PT X a tA) (hb:PW X (.BoolOp .And (b::rest) pos) tB'):PW X (.BoolOp .And (a::b::rest) pos) (tAnd tA tB'):=by
 intro wh pins s σ H Q I h;refine isTrue_and (thn (ha pins s σ H _ I h) fun c s1 hx__=>?_);obtain ⟨H1,I1,q1⟩:=hx__
 cases c with
 | true=>exact hb wh pins s1 σ H1 Q I1 q1
 | false=>exact ⟨H1,I1,q1⟩
theorem zo7 (ha:PT X a tA) (hb:PW X (.BoolOp .Or (b::rest) pos) tB'):PW X (.BoolOp .Or (a::b::rest) pos) (tOr tA tB'):=by
 intro wh pins s σ H Q I h;refine isTrue_or (thn (ha pins s σ H _ I h) fun c s1 hx__=>?_);obtain ⟨H1,I1,q1⟩:=hx__
 cases c with
 | true=>exact ⟨H1,I1,q1⟩
 | false=>exact hb wh pins s1 σ H1 Q I1 q1
theorem zmj (ha:PT X a tA):PT X (.UnaryOp .Not a pos) (tNot tA):=by
 intro pins s σ H Q I h;exact isTrue_not (ha pins s σ H (fun c H1=>Q (!c) H1) I h)
def zoL (ta tb:TE):TE:=fun σ H Q=>ta σ H fun x H1=>∃c,x=.bl c/\if c=true then tb σ H1 Q else Q (.bl false) H1
def zoX (ta:TE):TE:=fun σ H Q=>ta σ H fun x H1=>∃c,x=.bl c/\Q (.bl (!c)) H1
theorem znA {op} {t:TE} (h:PE X a t):PE X (.BoolOp op [a] pos) t:=fun pins s σ H Q I hw=>BoolOp_one (h pins s σ H Q I hw)
theorem zn2 (ha:PE X a ta) (hb:PE X (.BoolOp .And (b::rest) pos) tb):PE X (.BoolOp .And (a::b::rest) pos) (zoL ta tb):=by
 intro pins s σ H Q I h;refine BoolOp_and (thn (ha pins s σ H _ I h) fun v s1 hx__=>?_);obtain ⟨x,H1,I1,r1,q1⟩:=hx__;obtain ⟨c,rfl,q1⟩:=q1;cases r1;refine wpAny_truthy_bool ?_
 cases c with
 | true=>exact hb pins s1 σ H1 Q I1 q1
 | false=>exact ⟨.bl false,H1,I1,rfl,q1⟩
theorem znw (ha:PE X a ta):PE X (.UnaryOp .Not a pos) (zoX ta):=by
 intro pins s σ H Q I h;refine UnaryOp_ (thn (ha pins s σ H _ I h) fun v s1 hx__=>?_);obtain ⟨x,H1,I1,r1,q1⟩:=hx__;obtain ⟨c,rfl,q1⟩:=q1;cases r1;exact not_of (wpAny_truthy_bool ⟨.bl (!c),H1,I1,rfl,q1⟩)
def tIf (t:TT) (ta tb:TE):TE:=fun σ H Q=>t σ H fun c H1=>if c=true then ta σ H1 Q else tb σ H1 Q
theorem zke {c:Expr} (hc:PT X c tA) (ha:PE X a ta) (hb:PE X b tb):PE X (.IfExp c a b pos) (tIf tA ta tb):=by
 intro pins s σ H Q I h;refine wpAny_IfExp (thn (hc pins s σ H _ I h) fun d s1 hx__=>?_);obtain ⟨H1,I1,q1⟩:=hx__
 cases d with
 | true=>exact ha pins s1 σ H1 Q I1 q1
 | false=>exact hb pins s1 σ H1 Q I1 q1
end
def SqL (K:PySem.W.Frag) (H:Hp) (a:Addr) (xs:List V):Prop:=
 Rd H a (.lst xs)\/
  ∃(o:Obj) (its:Array Value) (n:Nat),K.lookup a=some o/\o.cls=.type "list"/\o.dict=none/\o.data=.seq its n/\its.size<=sizeLine/\Vals xs its.toList
def SqT (K:PySem.W.Frag) (H:Hp) (a:Addr) (xs:List V):Prop:=
 Rd H a (.tup xs)\/
  ∃(o:Obj) (its:Array Value) (n:Nat),K.lookup a=some o/\o.cls=.type "tuple"/\o.data=.seq its n/\its.size<=sizeLine/\Vals xs its.toList
def absV:Value->Option V
 | .none=>some .non
 | .bool b=>some (.bl b)
 | .int i _=>some (.int i)
 | .str x _=>some (.str x)
 | .bytes b _=>some (.byt b)
 | .float b _=>some (.flt b)
 | .ref a=>some (.ref a)
 | .type n=>some (.ty n)
 | _=>none
theorem RelV.abs {x:V} {u:Value} (r:RelV x u):absV u=some x:=by
 cases x with
 | non=>cases r;rfl
 | bl _=>cases r;rfl
 | int _=>obtain ⟨t,rfl⟩:=r;rfl
 | str _=>obtain ⟨t,rfl⟩:=r;rfl
 | byt _=>obtain ⟨t,rfl⟩:=r;rfl
 | flt _=>obtain ⟨t,rfl⟩:=r;rfl
 | ref _=>cases r;rfl
 | ty _=>cases r;rfl
theorem RelV.inj {x y:V} {u:Value} (r:RelV x u) (q:RelV y u):x=y:=Option.some.inj (r.abs.symm.trans q.abs)
theorem Vals.inj {xs ys:List V} {us:List Value} (h:Vals xs us):Vals ys us->xs=ys:=by
 induction h generalizing ys with
 | nil=>intro g;cases g;rfl
 | cons r t ih=>
  intro g
  cases g with
  | cons r' t'=>rw[r.inj r',ih t']
section
variable {X:Cx} {pins:List (Addr×Obj)} {σ:St} {H:Hp} {s:Shared} {a:Addr} {xs ys:List V}
theorem SqL.of {K:PySem.W.Frag} (h:H a=some (.lst xs)):SqL K H a xs:=.inl (.inl h)
theorem SqT.of {K:PySem.W.Frag} (h:H a=some (.tup xs)):SqT K H a xs:=.inl (.inl h)
theorem Inv.list (I:Inv X pins σ H s) (h:SqL X.K H a xs):∃its:List Value,Vals xs its/\PlainL s.heap a its.toArray/\xs.length<=sizeLine:=by
 rcases h with h | ⟨o,its,n,hk,hc,hd,hs,hz,r⟩
 .obtain ⟨z,its,n,r,e⟩:=h.ok I.hok;exact ⟨its,r,⟨_,n,e,rfl,rfl,rfl⟩,z⟩
 .refine ⟨its.toList,r,⟨o,n,I.kIn a o hk,hc,hd,by simpa using hs⟩, ?_⟩;have e:=r.length;simp only[Array.length_toList] at e;omega
theorem Inv.tuple (I:Inv X pins σ H s) (h:SqT X.K H a xs):∃its:List Value,Vals xs its/\IsTup s.heap a its.toArray/\xs.length<=sizeLine:=by
 rcases h with h | ⟨o,its,n,hk,hc,hs,hz,r⟩
 .obtain ⟨z,its,r,p⟩:=h.ok I.hok;exact ⟨its,r,p,z⟩
 .refine ⟨its.toList,r,⟨o,I.kIn a o hk,hc,n,by simpa using hs⟩, ?_⟩;have e:=r.length;simp only[Array.length_toList] at e;omega
theorem Inv.list_inj (I:Inv X pins σ H s) (h:SqL X.K H a xs) (h':SqL X.K H a ys):xs=ys:=by
 obtain ⟨its,r,⟨o,n,e,_,_,d⟩,_⟩:=I.list h;obtain ⟨its',r',⟨o',n',e',_,_,d'⟩,_⟩:=I.list h';rw[e] at e';cases e';rw[d] at d'
 injection d' with d1 _
 have:its=its':=by simpa using congrArg Array.toList d1
 subst this;exact r.inj r'
theorem Inv.tuple_inj (I:Inv X pins σ H s) (h:SqT X.K H a xs) (h':SqT X.K H a ys):xs=ys:=by
 obtain ⟨its,r,⟨o,e,_,n,d⟩,_⟩:=I.tuple h;obtain ⟨its',r',⟨o',e',_,n',d'⟩,_⟩:=I.tuple h';rw[e] at e';cases e';rw[d] at d'
 injection d' with d1 _
 have:its=its':=by simpa using congrArg Array.toList d1
 subst this;exact r.inj r'
end
abbrev Cx.wish (X:Cx) (E:Value->Shared->Prop):Cx:={ X with xe:=E }
abbrev Cx.nox (X:Cx):Cx:=X.wish fun _ _=>False
theorem Cx.Ok.wish {X:Cx} (ok:X.Ok) (E:Value->Shared->Prop):(X.wish E).Ok:=
 ⟨ok.mod,ok.kind,ok.glob,ok.blt,ok.above,ok.inj,ok.has,ok.cab,ok.hd,ok.frames,ok.stk,ok.exf,ok.bs,ok.bsz,ok.noex,ok.exfs,ok.funs,ok.frf⟩
theorem Cx.Ok.unwish {X:Cx} {E:Value->Shared->Prop} (ok:(X.wish E).Ok):X.Ok:=
 ⟨ok.mod,ok.kind,ok.glob,ok.blt,ok.above,ok.inj,ok.has,ok.cab,ok.hd,ok.frames,ok.stk,ok.exf,ok.bs,ok.bsz,ok.noex,ok.exfs,ok.funs,ok.frf⟩
section
variable {X:Cx} {pins:List (Addr×Obj)} {σ:St} {H:Hp} {s:Shared} {E:Value->Shared->Prop}
theorem Inv.wish (I:Inv X pins σ H s) (E:Value->Shared->Prop):Inv (X.wish E) pins σ H s:=⟨I.ok.wish E,I.os,I.bare,I.base,I.loc,I.cell,I.free,I.freeC,I.pin,I.hok,I.len⟩
theorem Inv.unwish (I:Inv (X.wish E) pins σ H s):Inv X pins σ H s:=⟨I.ok.unwish,I.os,I.bare,I.base,I.loc,I.cell,I.free,I.freeC,I.pin,I.hok,I.len⟩
theorem SP.unwish {D:Ends} {f:Flow} {s':Shared} (h:SP (X.wish E) pins D f s'):SP X pins D f s':=by
 cases f with
 | next=>obtain ⟨σ',H',I,q⟩:=h;exact ⟨σ',H',I.unwish,q⟩
 | brk=>obtain ⟨σ',H',I,q⟩:=h;exact ⟨σ',H',I.unwish,q⟩
 | cont=>obtain ⟨σ',H',I,q⟩:=h;exact ⟨σ',H',I.unwish,q⟩
 | ret u=>obtain ⟨v,σ',H',I,r,q⟩:=h;exact ⟨v,σ',H',I.unwish,r,q⟩
theorem PSs.nox {st:List Stmt} {t:TS} (h:PSs X.nox st t):PSs X st t:=fun pins s σ H D I hw=>
 wpAny_mono (h pins s σ H D (I.wish _) hw) (fun _ _ q=>q.unwish) fun _ _ z=>False.elim z
end
section
variable {X:Cx} {st:Stmt} {rest:List Stmt} {t u:TS} {e:Expr} {te:TE} {pos:Pos}
def zpC:TS:=fun D σ H=>D.nx σ H
def tSeq (t u:TS):TS:=fun D σ H=>t { D with nx:=u D } σ H
theorem pss_nil:PSs X [] zpC:=fun _ _ σ H _ I h=>wpAny_execs_nil ⟨σ,H,I,h⟩
theorem zkl (h1:PS X st t) (h2:PSs X rest u):PSs X (st::rest) (tSeq t u):=by
 intro pins s σ H D I h;refine wpAny_execs_cons (thn (h1 pins s σ H { D with nx:=u D } I h) fun f s1 q=>?_)
 cases f with
 | next=>
  obtain ⟨σ',H',I',q⟩:=q;exact h2 pins s1 σ' H' D I' q
 | ret v=>exact q
 | brk=>exact q
 | cont=>exact q
theorem zl4 (h1:PS X st t):PSs X [st] t:=by
 intro pins s σ H D I h;refine wpAny_execs_cons (thn (h1 pins s σ H D I h) fun f s1 q=>?_)
 cases f with
 | next=>exact wpAny_execs_nil q
 | ret v=>exact q
 | brk=>exact q
 | cont=>exact q
def znZ:TS:=fun D σ H=>D.bk σ H
theorem ps_break:PS X (.Break pos) znZ:=fun _ _ σ H _ I h=>wpAny_Break ⟨σ,H,I,h⟩
theorem Inv.quiet {pins:List (Addr×Obj)} {σ:St} {H:Hp} {s:Shared} (I:Inv X pins σ H s):interactive X.env=false:=by simp[interactive,I.ok.kind]
def zpl (te:TE):TS:=fun D σ H=>te σ H fun _ H1=>D.nx σ H1
theorem zlk (he:PE X e te) (hs:swapsWith e none pos.line X.env=pure false:=by rfl):PS X (.Expr e pos) (zpl te):=by
 intro pins s σ H D I h;exact wpAny_Expr_any (thn (he pins s σ H _ I h) fun v s1 ⟨x,H1,I1,r1,q1⟩=>⟨σ,H1,I1,q1⟩) I.quiet hs
def tRet (te:TE):TS:=fun D σ H=>te σ H D.rt
theorem znI (he:PE X e te):PS X (.Return (some e) pos) (tRet te):=by
 intro pins s σ H D I h;exact wpAny_Return_some (thn (he pins s σ H _ I h) fun v s1 ⟨x,H1,I1,r1,q1⟩=>⟨x,σ,H1,I1,r1,q1⟩)
def tIfS (c:TT) (t u:TS):TS:=fun D σ H=>c σ H fun b H1=>if b=true then t D σ H1 else u D σ H1
theorem zpx {c:Expr} {a b:List Stmt} {tc:TT} (hc:PT X c tc) (ha:PSs X a t) (hb:PSs X b u):PS X (.If c a b pos) (tIfS tc t u):=by
 intro pins s σ H D I h;refine wpAny_If (thn (hc pins s σ H _ I h) fun d s1 hx__=>?_);obtain ⟨H1,I1,q1⟩:=hx__
 cases d with
 | true=>exact ha pins s1 σ H1 D I1 q1
 | false=>exact hb pins s1 σ H1 D I1 q1
end
abbrev TG:=V->St->Hp->(St->Hp->Prop)->Prop
abbrev TGs:=List V->St->Hp->(St->Hp->Prop)->Prop
def PG (X:Cx) (target:Expr) (t:TG):Prop:=
 ∀(pins:List (Addr×Obj)) (s:Shared) (σ:St) (H:Hp) (v:V) (u:Value) (Q:St->Hp->Prop),Inv X pins σ H s->RelV v u->t v σ H Q->
  wpAny (model X.prog X.w) X.A (assign target X.env u) (fun _ s'=>∃σ' H',Inv X pins σ' H' s'/\Q σ' H') X.xe s
def PGs (X:Cx) (ts:List Expr) (t:TGs):Prop:=
 ∀(pins:List (Addr×Obj)) (s:Shared) (σ:St) (H:Hp) (vs:List V) (us:List Value) (Q:St->Hp->Prop),Inv X pins σ H s->Vals vs us->t vs σ H Q->
  wpAny (model X.prog X.w) X.A (assignInOrder ((assignEach ts X.env).map (·.2)) us) (fun _ s'=>∃σ' H',Inv X pins σ' H' s'/\Q σ' H') X.xe s
abbrev TSet:=V->V->V->Hp->(Hp->Prop)->Prop
def PSet (X:Cx) (t:TSet):Prop:=
 ∀(pins:List (Addr×Obj)) (s:Shared) (σ:St) (H:Hp) (o i v:V) (ov iv u:Value) (Q:Hp->Prop),Inv X pins σ H s->RelV o ov->RelV i iv->RelV v u->t o i v H Q->
  wpAny (model X.prog X.w) X.A (setItem ov iv u) (fun _ s'=>∃H',Inv X pins σ H' s'/\Q H') X.xe s
section
variable {X:Cx} {pos:Pos}
def zhW (i:Nat):TG:=fun v σ H Q=>Q (σ.set i (some v)) H
theorem zao {i:Nat} {x:Str} (hN:X.N.Nodup) (hi:X.N[i]? = some x) (hx:Loc X.env.scope x) (hf:X.fn x=true\/X.env.scope.names.lookup x=some .local:=by first | exact .inl rfl | exact .inr rfl | assumption):PG X (.Name x pos) (zhW i):=by
 intro pins s σ H v u Q I r h;exact wpAny_assign_Name (zhA I hN hi hx r (fun s' I'=>⟨_,H,I',h⟩) hf)
def gNil:TGs:=fun vs σ H Q=>vs=[]/\Q σ H
def zpm (t:TG) (u:TGs):TGs:=fun vs σ H Q=>∃v r,vs=v::r/\t v σ H fun σ' H'=>u r σ' H' Q
theorem zkY:PGs X [] gNil:=by
 intro pins s σ H vs us Q I r h;obtain ⟨e,h⟩:=h;subst e;cases r;exact assignInOrder_nil ⟨σ,H,I,h⟩
theorem zj6 {e:Expr} {es:List Expr} {t:TG} {u:TGs} (h1:PG X e t) (h2:PGs X es u)
  (hs:(assignEach (e::es) X.env).map (·.2)=assign e X.env::(assignEach es X.env).map (·.2):=by rfl):PGs X (e::es) (zpm t u):=by
 intro pins s σ H vs us Q I r h;obtain ⟨v,vr,e1,h⟩:=h;subst e1
 cases r with
 | cons r rr=>
  rw[hs];refine assignInOrder_cons (thn (h1 pins s σ H _ _ _ I r h) fun _ s1 hx__=>?_);obtain ⟨σ1,H1,I1,q1⟩:=hx__;exact h2 pins s1 σ1 H1 _ _ Q I1 rr q1
def gTup (K:PySem.W.Frag) (n:Nat) (t:TGs):TG:=fun v σ H Q=>∃a xs,v=.ref a/\SqT K H a xs/\xs.length=n/\t xs σ H Q
theorem znh {es:List Expr} {k:Nat} {t:TGs} {n:Nat} (hc:X.calm=true) (h:PGs X es t)
  (hn:(assignEach es X.env).length=n:=by rfl) (hst:(assignEach es X.env).findIdx? (·.1)=none:=by rfl):PG X (.Tuple es k pos) (gTup X.K n t):=by
 intro pins s σ H v u Q I r hw;obtain ⟨a,xs,e1,hq,hl,hw⟩:=hw;subst e1;cases r;obtain ⟨its,rv,ht,hz⟩:=I.tuple hq;refine assign_Tuple_tuple (I.ok.hd hc) ht (by simp[hn,<-hl,rv.length]) hst fun h' hx=>?_
 have I1:Inv X pins σ H { s with heap:=h' }:=I.kept (t':=s.toks) fun b o e=>hx b o (Nat.ne_of_lt (Heap.lt_size e)) e
 exact h pins _ σ H xs _ Q I1 (by simpa using rv) hw
def gSub (to ti:TE) (t:TSet):TG:=fun v σ H Q=>to σ H fun o H1=>ti σ H1 fun i H2=>t o i v H2 fun H3=>Q σ H3
theorem zmn {o i:Expr} {to ti:TE} {t:TSet} (ho:PE X o to) (hi:PE X i ti) (hs:PSet X t)
  (ha:∀v,assign (.Subscript o i pos) X.env v=(do
   let ov <-holding [v] (eval o X.env)
   let iv <-holding [v,ov] (eval i X.env)
   standAt pos
   holding [v,ov,iv] (setItem ov iv v)
   release [v,ov,iv] []):=by intro _;rfl):PG X (.Subscript o i pos) (gSub to ti t):=by
 intro pins s σ H v u Q I r h;rw[ha];refine wpAny_bind (wpAny_holding (thn (ho pins s σ H _ I h) fun ov s1 hx__=>?_));obtain ⟨x,H1,I1,r1,q1⟩:=hx__;refine wpAny_bind (wpAny_holding (thn (hi pins s1 σ H1 _ I1 q1) fun iv s2 hx__=>?_));obtain ⟨y,H2,I2,r2,q2⟩:=hx__;refine wpAny_bind (wpAny_standAt (wpAny_bind (wpAny_holding (thn (hs pins s2 σ H2 x y v ov iv u _ I2 r1 r2 r q2) fun _ s3 hx__=>?_))));obtain ⟨H3,I3,q3⟩:=hx__;exact wpAny_release ⟨σ,H3,I3,q3⟩
def tAsg (te:TE) (g:TG):TS:=fun D σ H=>te σ H fun x H1=>g x σ H1 D.nx
theorem zkB {tg e:Expr} {te:TE} {g:TG} (he:PE X e te) (hg:PG X tg g) (hs:swapsWithSole [tg] e pos.line X.env=pure false:=by rfl) (hw:swappedStores [tg] e X.env=pure none:=by rfl)
  (h1:(assignEach [tg] X.env).map (·.2)=[assign tg X.env]:=by rfl):PS X (.Assign [tg] e pos) (tAsg te g):=by
 intro pins s σ H D I h;refine wpAny_Assign_stores (thn (he pins s σ H _ I h) fun v s1 ⟨x,H1,I1,r1,q1⟩=>?_) hs hw;rw[h1];exact thn (hg pins s1 σ H1 x v _ I1 r1 q1) fun _ s2 q=>q
theorem zm1 {i:Nat} {x:Str} {e:Expr} {te:TE} {pos':Pos} (hN:X.N.Nodup) (hi:X.N[i]? = some x) (hx:Loc X.env.scope x) (he:PE X e te) (hs:swapsWith e (some (.Name x pos')) pos.line X.env=pure false:=by rfl) (hf:X.fn x=true\/X.env.scope.names.lookup x=some .local:=by first | exact .inl rfl | exact .inr rfl | assumption) :
  PS X (.Assign [.Name x pos'] e pos) (tAsg te (zhW i)):=by
 intro pins s σ H D I h;refine wpAny_Assign_Name (thn (he pins s σ H _ I h) fun v s1 ⟨y,H1,I1,r1,q1⟩=>?_) hs;exact zhA I1 hN hi hx r1 (fun s2 I2=>⟨_,H1,I2,q1⟩) hf
end
section
variable {X:Cx} {pos:Pos}
end
structure It where
 go:Nat->Hp->Prop
 yld:Nat->Hp->V->Hp->Prop
 stop:Nat->Hp->Prop
def FpOk (X:Cx) (pins:List (Addr×Obj)) (H:Hp) (b:Addr):Prop:=
 H b=none/\b≠X.env.locals/\b∉X.fs/\(b∈X.ex\/X.s₀.heap.objs.size<=b)/\(∀x c,X.env.cells.lookup x=some c->c≠b)/\∀p∈X.pn++pins,p.1≠b
theorem Inv.fpOk {X:Cx} {pins:List (Addr×Obj)} {σ:St} {H H':Hp} {s:Shared} {b:Addr} (I:Inv X pins σ H s) (hb:s.heap.objs.size<=b) (hn:H' b=none):FpOk X pins H' b:=by
 refine ⟨hn,Nat.ne_of_gt (Nat.lt_of_lt_of_le I.lt hb),I.nofs hb,.inr (Nat.le_trans I.sz hb),fun x c e z=>?_,fun p hp z=>?_⟩
 .obtain ⟨v,q⟩:=I.cell x c e;exact absurd (Nat.lt_of_lt_of_le q.lt (by rw[z];exact hb)) (Nat.lt_irrefl _)
 .exact absurd (Nat.lt_of_lt_of_le (Heap.lt_size (I.pin p hp).1) (by rw[z];exact hb)) (Nat.lt_irrefl _)
structure Turn (P:Program) (w:World) (K:PySem.W.Frag) (tg:Expr) (J:It) (fp:List Addr) (it:Addr) (tn:Nat->Heap->Prop):Prop where
 mem:it∈fp
 obj:∀i h,tn i h->∀b∈fp,∃o,h.get? b=some o/\∀v,o.data≠.cell v
 keep:∀i h h',tn i h->(∀b∈fp,∀o,h.get? b=some o->h'.get? b=some o)->tn i h'
 item:∀(X:Cx),X.prog=P->X.w=w->X.K=K->X.calm=true->∀(i:Nat) (pins:List (Addr×Obj)) (s:Shared) (σ:St) (H:Hp) (E:Value->Shared->Prop),Inv X pins σ H s->(∀b∈fp,FpOk X pins H b)->tn i s.heap->J.go i H->
  wpAny (model P w) X.A (pyNext (.ref it)) (fun r s1=>∃u,r=some u/\
   wpAny (model P w) X.A (letOwnedTupleGo tg (.ref it) u) (fun _ s2=>∃x H',Inv X pins σ H' s2/\RelV x u/\J.yld i H x H'/\tn (i+1) s2.heap/\∀b∈fp,H' b=none) E s1) E s
 done:∀(X:Cx),X.prog=P->X.w=w->X.K=K->X.calm=true->∀(i:Nat) (pins:List (Addr×Obj)) (s:Shared) (σ:St) (H:Hp) (E:Value->Shared->Prop),Inv X pins σ H s->(∀b∈fp,FpOk X pins H b)->tn i s.heap->J.stop i H->
  wpAny (model P w) X.A (pyNext (.ref it)) (fun r s1=>r=none/\Inv X pins σ H s1) E s
 self:∀(A:Around) (i:Nat) (s:Shared) (Q:Value->Shared->Prop) (E:Value->Shared->Prop),tn i s.heap->Q (.ref it) s->wpAny (model P w) A (pyIter (.ref it)) Q E s
abbrev TI:=St->Hp->(It->Hp->Prop)->Prop
def PIE (X:Cx) (pins:List (Addr×Obj)) (σ:St) (tg:Expr) (R:It->Hp->Prop) (itv:Value) (s2:Shared):Prop:=
 ∃(it:Addr) (fp:List Addr) (tn:Nat->Heap->Prop) (J:It) (H':Hp),itv=.ref it/\Inv X pins σ H' s2/\Turn X.prog X.w X.K tg J fp it tn/\tn 0 s2.heap/\(∀b∈fp,FpOk X pins H' b)/\R J H'
def PI (X:Cx) (tg iter:Expr) (wi:TI):Prop:=
 ∀(pins:List (Addr×Obj)) (s:Shared) (σ:St) (H:Hp) (R:It->Hp->Prop),Inv X pins σ H s->wi σ H R->
  wpAny (model X.prog X.w) X.A (eval iter X.env) (fun v s1=>wpAny (model X.prog X.w) X.A (pyIter v) (PIE X pins σ tg R) X.xe s1) X.xe s
theorem zjQ {M:Model} {A:Around} {E:Value->Shared->Prop} {s:Shared} {tg:Expr} {it:Addr} {u:Value} {o:Obj} {n:String} {vs:Array Value} {Q:Unit->Shared->Prop} (ho:s.heap.get? it=some o) (hc:o.cls=.type n) (hd:o.data=.fields vs)
    (hn:["enumerate","zip","dict_itemiterator","dict_reverseitemiterator","odict_iterator","itertools.zip_longest","itertools.pairwise"].contains n=false) (hQ:Q () s):wpAny M A (letOwnedTupleGo tg (.ref it) u) Q E s:=by
  unfold letOwnedTupleGo
  cases tg<;>first
    | exact wpAny_pure hQ
    | (cases u<;>first
        | exact wpAny_pure hQ
        | (refine wpAny_bind (wpAny_load ho ?_)
           rw[hc,hd]
           show wpAny M A (if (["enumerate","zip","dict_itemiterator","dict_reverseitemiterator","odict_iterator","itertools.zip_longest","itertools.pairwise"].contains n&&vs[0]? == some (rawInt _))=true then _ else _) Q E s
           rw[if_neg (by intro h;rw[hn,Bool.false_and] at h;cases h)];exact wpAny_pure hQ))
def Itl (K:PySem.W.Frag) (a:Addr):It:=
 ⟨fun i H=>∃xs x,SqL K H a xs/\xs[i]? = some x,fun i H x H'=>H'=H/\∀xs,SqL K H a xs->xs[i]? = some x,fun i H=>∃xs,SqL K H a xs/\xs.length<=i⟩
def Itt (K:PySem.W.Frag) (a:Addr):It:=
 ⟨fun i H=>∃xs x,SqT K H a xs/\xs[i]? = some x,fun i H x H'=>H'=H/\∀xs,SqT K H a xs->xs[i]? = some x,fun i H=>∃xs,SqT K H a xs/\xs.length<=i⟩
def Itr (lo:Int) (n:Nat):It:=⟨fun i _=>i < n,fun i H x H'=>H'=H/\x=.int (lo+i),fun i _=>n<=i⟩
theorem zjg {P:Program} {w:World} {K:PySem.W.Frag} {tg:Expr} (a it:Addr):Turn P w K tg (Itl K a) [it] it (fun i h=>h.IsListIter it a i) where
 mem:=by simp
 obj:=fun i h st b hb=>by
  have e:b=it:=by simpa using hb
  subst e;obtain ⟨o,e,c,d⟩:=st;exact ⟨o,e,fun v z=>by rw[d] at z;cases z⟩
 keep:=fun i h h' st k=>st.at fun o e=>k it (by simp) o e
 item:=by
  intro X hP hw hK hc i pins s σ H E I hf st hg;subst hP hw hK;obtain ⟨xs,x,hq,hx⟩:=hg;obtain ⟨its,rv,p,hz⟩:=I.list hq;obtain ⟨u,hu,ru⟩:=rv.get hx;obtain ⟨f0,f1,f2,f3,f4,f5⟩:=hf it (by simp);refine wpAny_pyNext_list_item st p.isList (x:=u) (by simpa using hu) fun h' st' sb=>?_
  have I1:Inv X pins σ H { s with heap:=h' }:=I.turned (t':=s.toks) (fun b o hb e=>(sb.2 b hb).trans e) f0 f1 f3 f4 f5;obtain ⟨o,e,c,d⟩:=id st';exact ⟨u,rfl,zjQ (s:={ s with heap:=h' }) e c d (by decide) ⟨x,H,I1,ru,⟨rfl,fun ys hy=>by rw[I.list_inj hy hq];exact hx⟩,st',fun b hb=>(hf b hb).1⟩⟩
 done:=by
  intro X hP hw hK hc i pins s σ H E I hf st hg;subst hP hw hK;obtain ⟨xs,hq,hx⟩:=hg;obtain ⟨its,rv,p,hz⟩:=I.list hq;obtain ⟨f0,f1,f2,f3,f4,f5⟩:=hf it (by simp);have hl:=rv.length;exact wpAny_pyNext_list_end (I.ok.hd hc) st p.isList (by simp;omega) fun h' eb=>⟨rfl,I.turned (t':=s.toks) (fun b o hb e=>eb b o hb e) f0 f1 f3 f4 f5⟩
 self:=fun _ _ _ _ _ st h=>wpAny_pyIter_listiter st h
theorem zh9 {P:Program} {w:World} {K:PySem.W.Frag} {tg:Expr} (a it:Addr):Turn P w K tg (Itt K a) [it] it (fun i h=>h.IsTupleIter it a i) where
 mem:=by simp
 obj:=fun i h st b hb=>by
  have e:b=it:=by simpa using hb
  subst e;obtain ⟨o,e,c,d⟩:=st;exact ⟨o,e,fun v z=>by rw[d] at z;cases z⟩
 keep:=fun i h h' st k=>st.at fun o e=>k it (by simp) o e
 item:=by
  intro X hP hw hK hc i pins s σ H E I hf st hg;subst hP hw hK;obtain ⟨xs,x,hq,hx⟩:=hg;obtain ⟨its,rv,p,hz⟩:=I.tuple hq;obtain ⟨u,hu,ru⟩:=rv.get hx;obtain ⟨f0,f1,f2,f3,f4,f5⟩:=hf it (by simp);refine wpAny_pyNext_tuple_item st (show s.heap.IsTuple a its.toArray from p) (x:=u) (by simpa using hu) fun h' st' sb=>?_
  have I1:Inv X pins σ H { s with heap:=h' }:=I.turned (t':=s.toks) (fun b o hb e=>(sb.2 b hb).trans e) f0 f1 f3 f4 f5;obtain ⟨o,e,c,d⟩:=id st';exact ⟨u,rfl,zjQ (s:={ s with heap:=h' }) e c d (by decide) ⟨x,H,I1,ru,⟨rfl,fun ys hy=>by rw[I.tuple_inj hy hq];exact hx⟩,st',fun b hb=>(hf b hb).1⟩⟩
 done:=by
  intro X hP hw hK hc i pins s σ H E I hf st hg;subst hP hw hK;obtain ⟨xs,hq,hx⟩:=hg;obtain ⟨its,rv,p,hz⟩:=I.tuple hq;obtain ⟨f0,f1,f2,f3,f4,f5⟩:=hf it (by simp);have hl:=rv.length;exact wpAny_pyNext_tuple_end (I.ok.hd hc) st (show s.heap.IsTuple a its.toArray from p) (by simp;omega) fun h' eb=>⟨rfl,I.turned (t':=s.toks) (fun b o hb e=>eb b o hb e) f0 f1 f3 f4 f5⟩
 self:=fun _ _ _ _ _ st h=>wpAny_pyIter_tupleiter st h
theorem zh2 {P:Program} {w:World} {K:PySem.W.Frag} {tg:Expr} (it:Addr) (lo:Int) (n:Nat):Turn P w K tg (Itr lo n) [it] it (fun i h=>IsRangeIter h it (lo+(i:Nat) * 1) ((n:Int) - (i:Nat)) 1) where
 mem:=by simp
 obj:=fun i h st b hb=>by
  have e:b=it:=by simpa using hb
  subst e;exact ⟨_,st,fun v z=>by
   have z':Data.fields _=Data.cell v:=z
   cases z'⟩
 keep:=fun i h h' st k=>k it (by simp) _ st
 item:=by
  intro X hP hw hK hc i pins s σ H E I hf st hg;subst hP hw hK;obtain ⟨f0,f1,f2,f3,f4,f5⟩:=hf it (by simp);have W:=Walks.range (prog:=X.prog) (w:=X.w) (I.ok.hd hc) it lo 1 n;refine W.item i s _ _ hg st fun v h' tk hv st' kk=>?_
  obtain ⟨t,rfl⟩:=hv;have I1:Inv X pins σ H { s with heap:=h',toks:=tk }:=I.turned (fun b o hb e=>kk b o (by simpa using hb) e) f0 f1 f3 f4 f5;refine ⟨_,rfl,zjQ (s:={ s with heap:=h',toks:=tk }) (n:="range_iterator") st' rfl rfl (by decide) ⟨.int (lo+i),H,I1,⟨t, ?_⟩,⟨rfl,rfl⟩,st',fun b hb=>(hf b hb).1⟩⟩;rw[Int.mul_one]
 done:=by
  intro X hP hw hK hc i pins s σ H E I hf st hg;subst hP hw hK;obtain ⟨f0,f1,f2,f3,f4,f5⟩:=hf it (by simp);exact wpAny_pyNext_range_end (I.ok.hd hc) st (by have:n<=i:=hg;omega) fun h' eb=>⟨rfl,I.turned (t':=s.toks) (fun b o hb e=>eb b o hb e) f0 f1 f3 f4 f5⟩
 self:=fun _ _ _ _ _ st h=>wpAny_pyIter_rangeiter st h
section
variable {X:Cx} {tg:Expr}
theorem zkf {pins:List (Addr×Obj)} {σ:St} {H:Hp} {s:Shared} {R:It->Hp->Prop} {E:Value->Shared->Prop} {lo hi:Int} {t u v:Tok} {tk:Nat} (I:Inv X pins σ H s) (h1:-(2 ^ 62)<=lo) (h2:lo < 2 ^ 62) (h3:-(2 ^ 62)<=hi) (h4:hi < 2 ^ 62)
  (q:R (Itr lo (hi - lo).toNat) H):wpAny (model X.prog X.w) X.A (pyIter (.ref s.heap.objs.size)) (PIE X pins σ tg R) E { s with heap:=s.heap.push { cls:=.type "range",data:=.fields #[.int lo t,.int hi u,.int 1 v] },toks:=tk }:=by
 refine wpAny_pyIter_range (IsRange.new ..) (small_one h1 h2 h3 h4) ?_;have I1:Inv X pins σ H { s with heap:=s.heap.push { cls:=.type "range",data:=.fields #[.int lo t,.int hi u,.int 1 v] },toks:=tk }:=I.kept fun b o e=>Heap.get?_push_of_some _ e
 refine ⟨(s.heap.push { cls:=.type "range",data:=.fields #[.int lo t,.int hi u,.int 1 v] }).objs.size,[(s.heap.push { cls:=.type "range",data:=.fields #[.int lo t,.int hi u,.int 1 v] }).objs.size],_,_,H,rfl,
  I1.kept (t':=tk) fun b o e=>Heap.get?_push_of_some _ e,zh2 _ lo (hi - lo).toNat, ?_,fun b hb=>?_,q⟩
 .have e1:lo+((0:Nat):Int) * 1=lo:=by simp
  have e2:(((hi - lo).toNat:Nat):Int) - ((0:Nat):Int)=Builtin.Range.rangeSize lo hi 1:=by rw[rangeSize_one];split<;>omega
  show IsRangeIter _ _ (lo+((0:Nat):Int) * 1) ((((hi - lo).toNat:Nat):Int) - ((0:Nat):Int)) 1
  rw[e1,e2];exact Heap.get?_push_size _ rfl
 .have e:b=(s.heap.push { cls:=.type "range",data:=.fields #[.int lo t,.int hi u,.int 1 v] }).objs.size:=by simpa using hb
  subst e;exact I1.fpOk (Nat.le_refl _) (I1.hok.fresh (Nat.le_refl _))
def zmG (ta:TA):TI:=fun σ H R=>ta σ H fun vs H1=>∃j:Int,vs=[.int j]/\-(2 ^ 62)<=j/\j < 2 ^ 62/\R (Itr 0 j.toNat) H1
theorem zgC {a:Expr} {ta:TA} {p pos:Pos} (hg:Gl X "range") (hm:X.mg "range"=none) (ha:PA X [a] ta) (hs:starEach [a] X.env=[(false,eval a X.env)]:=by rfl):PI X tg (.Call (.Name "range" p) [a] [] pos) (zmG ta):=by
 intro pins s σ H R I h;refine Call_ (zfx I hg hm boot_range (PyProof.Rows.callWith_type1 (thn (ha pos pins s σ H _ I h) fun us s1 ⟨vs,H1,I1,r1,q1⟩=>?_) hs rfl));obtain ⟨j,e,q1,q2,q⟩:=q1;subst e
 cases r1 with
 | cons r rr=>
  cases rr;obtain ⟨t,rfl⟩:=r;exact call_range_1 (zkf I1 (by omega) (by omega) q1 q2 (by simpa using q))
def tFor (wi:TI) (g:TG) (tb:TS):TS:=fun D σ H=>wi σ H fun J H1=>∃W:Nat->Nat->St->Hp->Prop,(∃m,W 0 m σ H1)/\∀i m σ H,W i m σ H->
 (J.stop i H/\D.nx σ H)\/(J.go i H/\∃N:St->Hp->Prop,(∀σ' H',N σ' H'->∃m',m' < m/\W (i+1) m' σ' H')/\∀x H',J.yld i H x H'->g x σ H' fun σ2 H2=>tb { D with nx:=N,ct:=N,bk:=D.nx } σ2 H2)
def zfn (fp:List Addr) (h:Heap):List (Addr×Obj):=fp.filterMap fun b=>(h.get? b).map fun o=>(b,o)
theorem zdN {fp:List Addr} {h:Heap} {b:Addr} {o:Obj} (hb:b∈fp) (e:h.get? b=some o):(b,o)∈zfn fp h:=List.mem_filterMap.mpr ⟨b,hb,by rw[e];rfl⟩
theorem ziL {fp:List Addr} {h:Heap} {p:Addr×Obj} (hp:p∈zfn fp h):p.1∈fp/\h.get? p.1=some p.2:=by
 obtain ⟨b,hb,e⟩:=List.mem_filterMap.mp hp
 cases q:h.get? b with
 | none=>rw[q] at e;cases e
 | some o=>
  rw[q] at e;have e':(b,o)=p:=Option.some.inj e;subst e';exact ⟨hb,q⟩
theorem Inv.pinned {pins:List (Addr×Obj)} {σ:St} {H:Hp} {s:Shared} {fp:List Addr} (I:Inv X pins σ H s) (hf:∀b∈fp,FpOk X pins H b) (ho:∀b∈fp,∃o,s.heap.get? b=some o/\∀v,o.data≠.cell v):Inv X (pins++zfn fp s.heap) σ H s:=
 I.pins_of fun p hp=>(List.mem_append.mp hp).elim (fun z=>I.pin p (List.mem_append_right _ z)) fun z=>by
  obtain ⟨hb,e⟩:=ziL z;obtain ⟨f0,f1,f2,_⟩:=hf p.1 hb;obtain ⟨o,e',d⟩:=ho p.1 hb;rw[e] at e';cases e';exact ⟨e,f0,f1,f2,d⟩
theorem Inv.unpinned {pins pl:List (Addr×Obj)} {σ:St} {H:Hp} {s:Shared} (I:Inv X (pins++pl) σ H s):Inv X pins σ H s:=I.pins_of fun p hp=>I.pin p (List.mem_append_right _ (List.mem_append_left _ hp))
theorem zhD {iter:Expr} {body:List Stmt} {wi:TI} {g:TG} {tb:TS} {pos:Pos} (hp:PassesOwn (model X.prog X.w) X.A X.env X.xe) (hc:X.calm=true) (hi:PI X tg iter wi) (hg:PG X tg g) (hb:PSs X body tb)
  (hs:∀x,foldedSetIterable iter X.env x=pure x:=by intro _;rfl):PS X (.For tg iter body [] pos) (tFor wi g tb):=by
 intro pins s σ H D I h;refine wpAny_For (thn (hi pins s σ H _ I h) fun v s1 h1=>thn h1 fun itv s2 h2=>?_) hs;obtain ⟨it,fp,tn,J,H2,e,I2,T,st2,f2,W,⟨m0,w0⟩,turn⟩:=h2;subst e
 -- what stays true of the iterator's objects through the loop
 have stat:∀{H':Hp},(∀b∈fp,H' b=none)->∀b∈fp,FpOk X pins H' b:=fun hn b hb=>⟨hn b hb,(f2 b hb).2⟩
 refine codeAny_forLoop_any (fun n s'=>∃i σ' H',Inv X pins σ' H' s'/\tn i s'.heap/\(∀b∈fp,H' b=none)/\W i n σ' H') ?_ m0 ⟨0,σ,H2,I2,st2,fun b hb=>(f2 b hb).1,w0⟩
 rintro n s3 ⟨i,σ3,H3,I3,st3,fr3,w3⟩
 rcases turn i n σ3 H3 w3 with ⟨stop,qn⟩ | ⟨go,N,hN,step⟩
 .refine wpAny_passesOwn hp (thn (T.done X rfl rfl rfl hc i pins s3 σ3 H3 X.xe I3 (stat fr3) st3 stop) fun r s4 hx__=>?_);obtain ⟨hr,I4⟩:=hx__;subst hr;exact wpAny_execs_nil ⟨σ3,H3,I4,qn⟩
 .refine wpAny_passesOwn hp (thn (T.item X rfl rfl rfl hc i pins s3 σ3 H3 X.xe I3 (stat fr3) st3 go) fun r s4 hx__=>?_);obtain ⟨u,hr,h4⟩:=hx__;subst hr;refine wpAny_passesOwn hp (thn h4 fun _ s5 hx__=>?_);obtain ⟨x,H5,I5,r5,y5,st5,fr5⟩:=hx__;have I5':=I5.pinned (stat fr5) (T.obj _ _ st5);refine wpAny_passesOwn hp (thn (hg _ s5 σ3 H5 x u _ I5' r5 (step x H5 y5)) fun _ s6 hx__=>?_);obtain ⟨σ6,H6,I6,q6⟩:=hx__;refine wpAny_passesOwn hp (thn (hb _ s6 σ6 H6 _ I6 q6) fun f s7 q7=>?_);have again:∀{σ7:St} {H7:Hp},Inv X (pins++zfn fp s5.heap) σ7 H7 s7->N σ7 H7->∃m,m < n/\∃i σ' H',Inv X pins σ' H' s7/\tn i s7.heap/\(∀b∈fp,H' b=none)/\W i m σ' H':=fun {σ7 H7} I7 n7=>by
   obtain ⟨m',hm,w7⟩:=hN σ7 H7 n7;refine ⟨m',hm,i+1,σ7,H7,I7.unpinned,T.keep _ _ _ st5 fun b hb o e=>(I7.pin (b,o) (List.mem_append_right _ (List.mem_append_right _ (zdN hb e)))).1,fun b hb=>?_,w7⟩;obtain ⟨o,e,d⟩:=T.obj _ _ st5 b hb;exact (I7.pin (b,o) (List.mem_append_right _ (List.mem_append_right _ (zdN hb e)))).2.1
  cases f with
  | next=>obtain ⟨σ7,H7,I7,n7⟩:=q7;exact again I7 n7
  | cont=>obtain ⟨σ7,H7,I7,n7⟩:=q7;exact again I7 n7
  | brk=>obtain ⟨σ7,H7,I7,q7⟩:=q7;exact ⟨σ7,H7,I7.unpinned,q7⟩
  | ret v=>obtain ⟨x7,σ7,H7,I7,r7,q7⟩:=q7;exact ⟨x7,σ7,H7,I7.unpinned,r7,q7⟩
end
abbrev R2:=V->V->Hp->VK->Prop
def OpR (X:Cx) (f:Value->Value->Sem Value) (r:R2):Prop:=
 ∀(pins:List (Addr×Obj)) (s:Shared) (σ:St) (H:Hp) (x y:V) (v u:Value) (Q:VK),Inv X pins σ H s->RelV x v->RelV y u->r x y H Q->
  wpAny (model X.prog X.w) X.A (f v u) (EP X pins σ Q) X.xe s
def UnR (X:Cx) (f:Value->Sem Value) (r:V->Hp->VK->Prop):Prop:=
 ∀(pins:List (Addr×Obj)) (s:Shared) (σ:St) (H:Hp) (x:V) (v:Value) (Q:VK),Inv X pins σ H s->RelV x v->r x H Q->
  wpAny (model X.prog X.w) X.A (f v) (EP X pins σ Q) X.xe s
def CallR (X:Cx) (f:Value) (r:List V->Hp->VK->Prop):Prop:=
 ∀(pins:List (Addr×Obj)) (s:Shared) (σ:St) (H:Hp) (xs:List V) (us:List Value) (Q:VK),Inv X pins σ H s->Vals xs us->r xs H Q->
  wpAny (model X.prog X.w) X.A (call f us) (EP X pins σ Q) X.xe s
def TruR (X:Cx) (r:V->Hp->(Bool->Hp->Prop)->Prop):Prop:=
 ∀(pins:List (Addr×Obj)) (s:Shared) (σ:St) (H:Hp) (x:V) (v:Value) (Q:Bool->Hp->Prop),Inv X pins σ H s->RelV x v->r x H Q->
  wpAny (model X.prog X.w) X.A (truthy v) (TP X pins σ Q) X.xe s
def tOp (r:R2) (ta tb:TE):TE:=fun σ H Q=>ta σ H fun x H1=>tb σ H1 fun y H2=>r x y H2 Q
def tUn (r:V->Hp->VK->Prop) (ta:TE):TE:=fun σ H Q=>ta σ H fun x H1=>r x H1 Q
def rI (C:Int->Int->Prop) (g:Int->Int->V):R2:=fun x y H Q=>∃i j,x=.int i/\y=.int j/\C i j/\Q (g i j) H
def rI0 (g:Int->Int->V):R2:=fun x y H Q=>∃i j,x=.int i/\y=.int j/\Q (g i j) H
def rU (g:Int->V):V->Hp->VK->Prop:=fun x H Q=>∃i,x=.int i/\Q (g i) H
section
variable {X:Cx} {a b c:Expr} {ta tb tc:TE} {pos:Pos}
theorem binT (ha:PE X a ta) (hb:PE X b tb) {pins:List (Addr×Obj)} {s:Shared} {σ:St} {H:Hp} {R:V->V->Hp->Prop} (I:Inv X pins σ H s)
  (h:ta σ H fun x H1=>tb σ H1 fun y H2=>R x y H2) {Q:Value->Shared->Prop} {f:Value->Value->Sem Value}
  (hf:∀v u s2 x y H2,Inv X pins σ H2 s2->RelV x v->RelV y u->R x y H2->wpAny (model X.prog X.w) X.A (f v u) Q X.xe s2) :
  wpAny (model X.prog X.w) X.A (eval a X.env) (fun v s₁=>wpAny (model X.prog X.w) X.A (eval b X.env) (fun u s₂=>wpAny (model X.prog X.w) X.A (f v u) Q X.xe s₂) X.xe s₁) X.xe s:=by
 refine thn (ha pins s σ H _ I h) fun v s1 hx__=>?_
 obtain ⟨x,H1,I1,r1,q1⟩:=hx__;refine thn (hb pins s1 σ H1 _ I1 q1) fun u s2 hx__=>?_
 obtain ⟨y,H2,I2,r2,q2⟩:=hx__;exact hf v u s2 x y H2 I2 r1 r2 q2
theorem zoP {op:Operator} {r:R2} (ho:OpR X (binaryOp op) r) (ha:PE X a ta) (hb:PE X b tb):PE X (.BinOp a op b pos) (tOp r ta tb):=by
 intro pins s σ H Q I h;exact wpAny_BinOp (binT ha hb I h fun v u s2 x y H2 I2 rx ry q=>ho pins s2 σ H2 x y v u Q I2 rx ry q)
theorem znb {op:UnaryOp} {r:V->Hp->VK->Prop} (ho:UnR X (unaryOp op) r) (ha:PE X a ta):PE X (.UnaryOp op a pos) (tUn r ta):=by
 intro pins s σ H Q I h;exact UnaryOp_ (thn (ha pins s σ H _ I h) fun v s1 ⟨x,H1,I1,r1,q1⟩=>ho pins s1 σ H1 x v Q I1 r1 q1)
theorem opI {f:Value->Value->Sem Value} {C:Int->Int->Prop} {g:Int->Int->Int}
  (rule:∀(i j:Int) (t u:Tok) (s:Shared) (Q:Value->Shared->Prop) (E:Value->Shared->Prop),C i j->Q (.int (g i j) s.toks) { s with toks:=s.toks+1 }->wpAny (model X.prog X.w) X.A (f (.int i t) (.int j u)) Q E s) :
  OpR X f (rI C fun i j=>.int (g i j)):=by
 intro pins s σ H x y v u Q I rx ry h;obtain ⟨i,j,rfl,rfl,hc,q⟩:=h;obtain ⟨t,rfl⟩:=rx;obtain ⟨t',rfl⟩:=ry;exact rule i j t t' s _ _ hc ⟨.int (g i j),H,I.tok _,⟨_,rfl⟩,q⟩
theorem opI0 {f:Value->Value->Sem Value} {g:Int->Int->Int}
  (rule:∀(i j:Int) (t u:Tok) (s:Shared) (Q:Value->Shared->Prop) (E:Value->Shared->Prop),Q (.int (g i j) s.toks) { s with toks:=s.toks+1 }->wpAny (model X.prog X.w) X.A (f (.int i t) (.int j u)) Q E s) :
  OpR X f (rI0 fun i j=>.int (g i j)):=by
 intro pins s σ H x y v u Q I rx ry h;obtain ⟨i,j,rfl,rfl,q⟩:=h;obtain ⟨t,rfl⟩:=rx;obtain ⟨t',rfl⟩:=ry;exact rule i j t t' s _ _ ⟨.int (g i j),H,I.tok _,⟨_,rfl⟩,q⟩
theorem opB0 {f:Value->Value->Sem Value} {g:Int->Int->Bool}
  (rule:∀(i j:Int) (t u:Tok) (s:Shared) (Q:Value->Shared->Prop) (E:Value->Shared->Prop),Q (.bool (g i j)) s->wpAny (model X.prog X.w) X.A (f (.int i t) (.int j u)) Q E s) :
  OpR X f (rI0 fun i j=>.bl (g i j)):=by
 intro pins s σ H x y v u Q I rx ry h;obtain ⟨i,j,rfl,rfl,q⟩:=h;obtain ⟨t,rfl⟩:=rx;obtain ⟨t',rfl⟩:=ry;exact rule i j t t' s _ _ ⟨.bl (g i j),H,I,rfl,q⟩
def CPow (i j:Int):Prop:=0<=j/\j<=1000000/\i.natAbs < 2 ^ 64
def CMul (i j:Int):Prop:=(-(2 ^ 64) < i/\i < 2 ^ 64)\/(-(2 ^ 64) < j/\j < 2 ^ 64)
theorem CMul.ok {i j:Int} (h:CMul i j):IntMulOk i j:=by
 rcases h with ⟨h1,h2⟩ | ⟨h1,h2⟩
 .exact .of_left (intBits_le_64 h1 h2)
 .exact .of_right (intBits_le_64 h1 h2)
theorem op_add:OpR X (binaryOp .Add) (rI0 fun i j=>.int (i+j)):=opI0 fun _ _ _ _ _ _ _ q=>add_int q
theorem zmm:OpR X (binaryOp .Sub) (rI0 fun i j=>.int (i - j)):=opI0 fun _ _ _ _ _ _ _ q=>sub_int q
theorem op_mul:OpR X (binaryOp .Mult) (rI CMul fun i j=>.int (i * j)):=opI fun _ _ _ _ _ _ _ hc q=>mul_int q hc.ok
theorem znz:OpR X (binaryOp .Mod) (rI (fun _ j=>0 < j) fun i j=>.int (i % j)):=opI fun i j _ _ _ _ _ hc q=>by
 have h1:(0:Int) < j:=hc;exact mod_int' (by omega) (by rw[Int.fmod_eq_emod_of_nonneg i (by omega)];exact q)
theorem znM:OpR X (binaryOp .Pow) (rI CPow fun i j=>.int (i ^ j.toNat)):=opI fun _ _ _ _ _ _ _ hc q=>pow_int_small hc.1 hc.2.1 hc.2.2 q
theorem unI {f:Value->Sem Value} {g:Int->Int}
  (rule:∀(i:Int) (t:Tok) (s:Shared) (Q:Value->Shared->Prop) (E:Value->Shared->Prop),Q (.int (g i) s.toks) { s with toks:=s.toks+1 }->wpAny (model X.prog X.w) X.A (f (.int i t)) Q E s) :
  UnR X f (rU fun i=>.int (g i)):=by
 intro pins s σ H x v Q I rx h;obtain ⟨i,rfl,q⟩:=h;obtain ⟨t,rfl⟩:=rx;exact rule i t s _ _ ⟨.int (g i),H,I.tok _,⟨_,rfl⟩,q⟩
theorem un_neg:UnR X (unaryOp .USub) (rU fun i=>.int (-i)):=unI fun _ _ _ _ _ q=>neg_int q
end
section
variable {X:Cx} {a b c:Expr} {ta tb tc:TE} {pos:Pos}
theorem zkJ {pins:List (Addr×Obj)} {σ:St} {H:Hp} {s:Shared} {Q:VK} {k k':Bool} (I:Inv X pins σ H s) (q:Q (.bl k) H) (e:k=k'):EP X pins σ Q (.bool k') s:=by
 subst e;exact ⟨.bl k,H,I,rfl,q⟩
theorem zlE:OpR X (compareOp .Lt) (rI0 fun i j=>.bl (decide (i < j))):=opB0 fun _ _ _ _ _ _ _ q=>lt_int q
theorem zf9:OpR X (compareOp .LtE) (rI0 fun i j=>.bl (decide (i<=j))):=opB0 fun _ _ _ _ _ _ _ q=>le_int q
theorem zoY:OpR X (compareOp .Gt) (rI0 fun i j=>.bl (decide (j < i))):=opB0 fun _ _ _ _ _ _ _ q=>gt_int q
theorem op_isN:OpR X (compareOp .Is) (fun x y H Q=>y=.non/\Q (.bl (decide (x=.non))) H):=by
 intro pins s σ H x y v u Q I rx ry h;obtain ⟨rfl,q⟩:=h;cases ry;refine is_none_gen (zkJ I q ?_)
 cases x<;>first
  | (cases rx;rfl)
  | (obtain ⟨t,rfl⟩:=rx;rfl)
theorem op_notN:OpR X (compareOp .IsNot) (fun x y H Q=>y=.non/\Q (.bl (!decide (x=.non))) H):=by
 intro pins s σ H x y v u Q I rx ry h;obtain ⟨rfl,q⟩:=h;cases ry;refine isnot_none_gen (zkJ I q ?_)
 cases x<;>first
  | (cases rx;rfl)
  | (obtain ⟨t,rfl⟩:=rx;rfl)
theorem OpR.or {f:Value->Value->Sem Value} {r r':R2} (h:OpR X f r) (h':OpR X f r'):OpR X f (fun x y H Q=>r x y H Q\/r' x y H Q):=by
 intro pins s σ H x y v u Q I rx ry q;rcases q with q | q
 .exact h pins s σ H x y v u Q I rx ry q
 .exact h' pins s σ H x y v u Q I rx ry q
theorem zaR (b:Expr) {op:CmpOp} (h:op≠.In:=by decide) (h2:op≠.NotIn:=by decide):behindInMarks op b=false:=by
 have e1:(op==CmpOp.In)=false:=by cases op<;>first | rfl | exact absurd rfl h
 have e2:(op==CmpOp.NotIn)=false:=by cases op<;>first | rfl | exact absurd rfl h2
 cases b<;>simp[behindInMarks,e1,e2]
theorem zlr {op:CmpOp} {r:R2} (ho:OpR X (compareOp op) r) (ha:PE X a ta) (hb:PE X b tb) (hm:behindInMarks op b=false):PE X (.Compare a [op] [b] pos) (tOp r ta tb):=by
 intro pins s σ H Q I h;exact wpAny_Compare1 (binT ha hb I h fun v u s2 x y H2 I2 rx ry q=>ho pins s2 σ H2 x y v u Q I2 rx ry q) hm
def znv (t:TE):TT:=fun σ H Q=>t σ H fun x H'=>∃k,x=.bl k/\Q k H'
theorem zlJ {op:CmpOp} {r:R2} (ho:OpR X (compareOp op) r) (ha:PE X a ta) (hb:PE X b tb) (hm:behindInMarks op b=false):PT X (.Compare a [op] [b] pos) (znv (tOp r ta tb)):=by
 intro pins s σ H Q I h;refine wpAny_isTrue_Compare1 (thn (ha pins s σ H _ I h) fun v s1 w1=>?_) hm;obtain ⟨x,H1,I1,r1,q1⟩:=w1;refine thn (hb pins s1 σ H1 _ I1 q1) fun u s2 w2=>?_
 obtain ⟨y,H2,I2,r2,q2⟩:=w2;refine thn (ho pins s2 σ H2 x y v u _ I2 r1 r2 q2) fun c s3 w3=>?_
 obtain ⟨z,H3,I3,r3,k,e,q3⟩:=w3;subst e;cases r3;exact wpAny_truthy_bool ⟨H3,I3,q3⟩
def zjw (r r':R2) (ta tb tc:TE):TE:=fun σ H Q=>ta σ H fun x H1=>tb σ H1 fun y H2=>r x y H2 fun z H3=>∃k,z=.bl k/\
 (if k=true then tc σ H3 fun w' H4=>r' y w' H4 Q else Q (.bl false) H3)
theorem zj1 {op op':CmpOp} {r r':R2} (ho:OpR X (compareOp op) r) (ho':OpR X (compareOp op') r') (ha:PE X a ta) (hb:PE X b tb) (hc:PE X c tc)
  (hm:lastMarks [op,op'] [b,c]=false:=by with_unfolding_all rfl):PE X (.Compare a [op,op'] [b,c] pos) (zjw r r' ta tb tc):=by
 intro pins s σ H Q I h;refine Compare_chain (thn (ha pins s σ H _ I h) fun v s1 w1=>?_) hm;obtain ⟨x,H1,I1,r1,q1⟩:=w1;refine chain_link (thn (hb pins s1 σ H1 _ I1 q1) fun u s2 w2=>?_);obtain ⟨y,H2,I2,r2,q2⟩:=w2;refine thn (ho pins s2 σ H2 x y v u _ I2 r1 r2 q2) fun d s3 w3=>?_
 obtain ⟨z,H3,I3,r3,k,e,q3⟩:=w3;subst e;cases r3;refine wpAny_truthy_bool ?_
 cases k with
 | false=>exact ite_ff ⟨.bl false,H3,I3,rfl,q3⟩
 | true=>exact ite_tt (chain_last (thn (hc pins s3 σ H3 _ I3 q3) fun w' s4 ⟨z',H4,I4,r4,q4⟩=>ho' pins s4 σ H4 y z' u w' Q I4 r2 r4 q4))
theorem zjU {op op':CmpOp} {r r':R2} (ho:OpR X (compareOp op) r) (ho':OpR X (compareOp op') r') (ha:PE X a ta) (hb:PE X b tb) (hc:PE X c tc)
  (hm:lastMarks [op,op'] [b,c]=false:=by with_unfolding_all rfl):PT X (.Compare a [op,op'] [b,c] pos) (znv (zjw r r' ta tb tc)):=by
 intro pins s σ H Q I h;refine isTrue_chain (thn (ha pins s σ H _ I h) fun v s1 w1=>?_) hm;obtain ⟨x,H1,I1,r1,q1⟩:=w1;refine test_link (thn (hb pins s1 σ H1 _ I1 q1) fun u s2 w2=>?_);obtain ⟨y,H2,I2,r2,q2⟩:=w2;refine thn (ho pins s2 σ H2 x y v u _ I2 r1 r2 q2) fun d s3 w3=>?_
 obtain ⟨z,H3,I3,r3,k,e,q3⟩:=w3;subst e;cases r3;refine wpAny_truthy_bool ?_
 cases k with
 | false=>
  obtain ⟨k',e',q'⟩:=q3
  cases e'
  exact ite_ff ⟨H3,I3,q'⟩
 | true=>
  refine ite_tt (test_last (thn (hc pins s3 σ H3 _ I3 q3) fun w' s4 ⟨z',H4,I4,r4,q4⟩=>thn (ho' pins s4 σ H4 y z' u w' _ I4 r2 r4 q4) fun d' s5 hx__=>?_));obtain ⟨z2,H5,I5,r5,k2,e2,q5⟩:=hx__;subst e2;cases r5;exact wpAny_truthy_bool ⟨H5,I5,q5⟩
def TruV (K:PySem.W.Frag) (x:V) (H:Hp) (k:Bool):Prop:=
 match x with
 | .non=>k=false
 | .bl b=>k=b
 | .int i=>k=(i != 0)
 | .str y=>y.length<=sizeLine/\k=((y.length:Int) != 0)
 | .byt y=>y.size<=sizeLine/\k=((y.size:Int) != 0)
 | .ref p=>(∃xs,SqL K H p xs/\k=!xs.isEmpty)\/(∃xs,SqT K H p xs/\k=!xs.isEmpty)\/∃kvs,H p=some (.dK kvs)/\k=!kvs.isEmpty
 | _=>False
theorem zig {κ:Type} {kvs:List (κ×V)} {vs:List (κ×Value)} (r:KV kvs vs):(!vs.isEmpty)=!kvs.isEmpty:=by
 cases r<;>rfl
theorem zfv {xs:List V} {its:List Value} (r:Vals xs its):(!its.toArray.isEmpty)=!xs.isEmpty:=by
 cases r<;>simp
theorem zfr:(sizeLine:Nat) < 2 ^ 63:=by rw[sizeLine_eq];decide
theorem zmH:TruR X (fun x H Q=>∃k,TruV X.K x H k/\Q k H):=by
 intro pins s σ H x v Q I rx h;obtain ⟨k,e,q⟩:=h;have hl:=zfr;have hs:sizeLine=16777216:=sizeLine_eq
 cases x with
 | non=>
  cases rx;have e':k=false:=e;subst e';exact truthy_none ⟨H,I,q⟩
 | bl b=>
  cases rx;have e':k=b:=e;subst e';exact wpAny_truthy_bool ⟨H,I,q⟩
 | int i=>
  obtain ⟨t,rfl⟩:=rx;have e':k=(i != 0):=e;subst e';exact PySem.P.truthy_int ⟨H,I,q⟩
 | str y=>
  obtain ⟨t,rfl⟩:=rx;obtain ⟨hy,e'⟩:y.length<=sizeLine/\k=((y.length:Int) != 0):=e;subst e';exact PySem.P.truthy_str (by omega) ⟨H,I.tok _,q⟩
 | byt y=>
  obtain ⟨t,rfl⟩:=rx;obtain ⟨hy,e'⟩:y.size<=sizeLine/\k=((y.size:Int) != 0):=e;subst e';exact PySem.W.truthy_bytes (by omega) ⟨H,I.tok _,q⟩
 | ref p=>
  cases rx;have e':(∃xs,SqL X.K H p xs/\k=!xs.isEmpty)\/(∃xs,SqT X.K H p xs/\k=!xs.isEmpty)\/∃kvs,H p=some (.dK kvs)/\k=!kvs.isEmpty:=e;rcases e' with ⟨xs,hx,e'⟩ | ⟨xs,hx,e'⟩ | ⟨kvs,hx,e'⟩
  .subst e';obtain ⟨its,r,pl,hz⟩:=I.list hx;have hlen:=r.length;exact wpAny_truthy_list pl.isList (by simp only[List.size_toArray];omega) ⟨H,I.tok _,by rw[zfv r];exact q⟩
  .subst e';obtain ⟨its,r,pl,hz⟩:=I.tuple hx;have hlen:=r.length;exact truthy_tuple pl (by simp only[List.size_toArray];omega) ⟨H,I.tok _,by rw[zfv r];exact q⟩
  .subst e';obtain ⟨hz,hS,vs,r,m⟩:kvs.length<=sizeLine/\(p==sysModules)=false/\∃vs,KV kvs vs/\s.heap.DictOf (zg0 X.prog X.w) p vs:=I.hok p _ hx;have hlen:kvs.length=vs.length:=Paired.length r;exact wpAny_truthy_dict hS m (by omega) ⟨H,I.tok _,by rw[zig r];exact q⟩
 | _=>exact (show False from e).elim
theorem zj4 (ha:PE X a ta) (he:∀whole,isTrue a X.env whole=(do let v <-whole;standAt a.pos;holding [v] (truthy v))) :
  PT X a (fun σ H Q=>ta σ H fun x H'=>∃k,TruV X.K x H' k/\Q k H'):=by
 intro pins s σ H Q I h;exact isTrue_plain (thn (ha pins s σ H _ I h) fun v s1 ⟨x,H1,I1,r1,q1⟩=>zmH pins s1 σ H1 x v Q I1 r1 q1) (he _)
theorem zhb {x:V} {us:List Value} (r:Vals [x] us):∃u,us=[u]/\RelV x u:=by
 cases r with
 | cons r1 r2=>cases r2;exact ⟨_,rfl,r1⟩
theorem znY {x y:V} {us:List Value} (r:Vals [x,y] us):∃u w',us=[u,w']/\RelV x u/\RelV y w':=by
 cases r with
 | cons r1 r2=>
  cases r2 with
  | cons r3 r4=>cases r4;exact ⟨_,_,rfl,r1,r3⟩
theorem ziq (hc:X.calm=true):CallR X (.builtin "max") (fun xs H Q=>∃i j,xs=[.int i,.int j]/\Q (.int (if j > i then j else i)) H):=by
 intro pins s σ H xs us Q I r h;obtain ⟨i,j,rfl,q⟩:=h;obtain ⟨u,w',rfl,⟨t,rfl⟩,⟨t',rfl⟩⟩:=znY r;refine max_two_ints (I.ok.hd hc) fun h' tk k=>⟨_,H,I.kept k, ?_,q⟩
 by_cases hj:j > i
 .rw[if_pos hj,if_pos hj];exact ⟨_,rfl⟩
 .rw[if_neg hj,if_neg hj];exact ⟨_,rfl⟩
theorem ziT:CallR X (.type "int") (fun xs H Q=>(∃i,xs=[.int i]/\Q (.int i) H)\/∃k,xs=[.bl k]/\Q (.int (if k then 1 else 0)) H):=by
 intro pins s σ H xs us Q I r h;rcases h with ⟨i,rfl,q⟩ | ⟨k,rfl,q⟩
 .obtain ⟨u,rfl,t,rfl⟩:=zhb r;exact call_int_int ⟨.int i,H,I,⟨_,rfl⟩,q⟩
 .obtain ⟨u,rfl,r1⟩:=zhb r;cases r1;exact call_int_bool ⟨.int (if k then 1 else 0),H,I.tok _,⟨_,rfl⟩,q⟩
end
structure ObjM (h:Heap) (x dx C:Addr) (mA:Str->Option Value):Prop where
 obj:h.get? x=some (PySem.W.instObj C dx)
 ns:h.Ns1 dx mA
 ne:dx≠x
theorem zjM {h:Heap} {dx:Addr} {mA:Str->Option Value} (n:h.Ns1 dx mA):∃od,h.get? dx=some od/\∀name,PySem.W.lookIn name od=some (mA name):=by
 obtain ⟨o,es,ep,ho,hd,hk,_,hm⟩:=n;refine ⟨o,ho,fun name=>?_⟩;have e:=hm name;unfold nsFind findBy at e;rw[<-Array.find?_toList] at e;unfold PySem.W.lookIn;rw[hd];dsimp only;split
 .rename_i y q;rw[q] at e;exact congrArg some e
 .rename_i q;rw[q] at e;have a:es.toList.any (·.refKey)=false:=by
   rw[List.any_eq_false];intro y hy;obtain ⟨z,t,hkey⟩:=hk y (Array.mem_toList_iff.mp hy);simp[DictEntry.refKey,hkey]
  have a':¬es.toList.any (·.refKey)=true:=by rw[a];exact Bool.false_ne_true
  rw[if_neg a'];exact congrArg some e
theorem ObjM.look {h:Heap} {x dx C:Addr} {mA:Str->Option Value} (I:ObjM h x dx C mA):∃od,PySem.W.InstAt h x (PySem.W.instObj C dx) C (some od)/\∀name,PySem.W.lookIn name od=some (mA name):=
 let ⟨od,ho,hl⟩:=zjM I.ns
 ⟨od,⟨I.obj,rfl,rfl,ho⟩,hl⟩
section
variable {prog:Program} {w:World} {A:Around} {E:Value->Shared->Prop} {s:Shared} {K:PySem.W.Frag} {x dx C f:Addr} {mA:Str->Option Value} {name:Str} {v:Value}
end
section
variable {P:Program} {w:World} {H H':Hp} {h h':Heap} {a C dx:Addr} {fs fs':List (Str×V)}
theorem zlI (hok:HOk P w H h) (e:H a=some (.ins C dx fs)):∃mA,ObjM h a dx C mA/\(∀f,RelO (fs.lookup f) (mA f))/\PySem.Within mA (fs.map (·.1))/\fs.length<=1000/\H dx=some (.own a):=by
 obtain ⟨d,z,ne,ob,mA,n,r,q⟩:=(show ObjOk P w H h a (.ins C dx fs) from hok a _ e);exact ⟨mA,⟨ob,n,ne⟩,r,q,z,d⟩
end
structure Cls (K:PySem.W.Frag) (C:Addr):Prop where
 pg:PySem.W.plainGet K C Str.empty=true
 hd:PySem.W.hasDictIn K C=true
 po:PySem.W.plainOver K C=true
 sa:PySem.W.findIn K (.ref C) "__setattr__"=some (some (.builtin "object.__setattr__"))
theorem Cls.get {K:PySem.W.Frag} {C:Addr} (c:Cls K C) (f:Str):PySem.W.plainGet K C f=true:=c.pg
section
variable {X:Cx} {pins:List (Addr×Obj)} {σ:St} {H:Hp} {s:Shared} {a C dx:Addr} {fs:List (Str×V)} {f:Str} {v:V} {A:Around} {E:Value->Shared->Prop}
end
section
variable {X:Cx} {o e value:Expr} {f:Str} {pos pos' tpos:Pos} {ta tv:TE}
end
section
variable {X:Cx} {pins:List (Addr×Obj)} {σ:St} {H:Hp} {s:Shared} {A:Around} {E:Value->Shared->Prop} {Q:Value->Shared->Prop} {c:Value} {b:Bool}
inductive TyOf (K:PySem.W.Frag) (H:Hp):V->Value->Prop where
 | non:TyOf K H .non (.type "NoneType")
 | bl (x:Bool):TyOf K H (.bl x) (.type "bool")
 | int (i:Int):TyOf K H (.int i) (.type "int")
 | str (x:Str):TyOf K H (.str x) (.type "str")
 | flt (x:UInt64):TyOf K H (.flt x) (.type "float")
 | lst {a:Addr} {xs:List V} (e:H a=some (.lst xs)):TyOf K H (.ref a) (.type "list")
 | frz {a:Addr} {o:Obj} {xs:List V} (e:H a=some (.frz o (.lst xs))):TyOf K H (.ref a) (.type "list")
 | tup {a:Addr} {xs:List V} (e:H a=some (.tup xs)):TyOf K H (.ref a) (.type "tuple")
 | dK {a:Addr} {kvs:List (Key×V)} (e:H a=some (.dK kvs)):TyOf K H (.ref a) (.type "dict")
 | dT {a:Addr} {kvs:List (List Key×V)} (e:H a=some (.dT kvs)):TyOf K H (.ref a) (.type "dict")
 | ins {a C dx:Addr} {fs:List (Str×V)} (e:H a=some (.ins C dx fs)) (cl:Cls K C) (ha:PySem.W.findIn K (.ref C) "__class__"=some (some (.builtin "object.__class__")))
   (hn:PySem.W.specialIn K (.builtin "object.__class__") "__get__"=some (some (.builtin "getset_descriptor.__get__"))) (htk:PySem.W.takesIn K (.builtin "object.__class__")=some true)
   (hm:PySem.W.mroIn K C (.type "object")=some true):TyOf K H (.ref a) (.ref C)
theorem ziU {x:V} {u t:Value} (I:Inv X pins σ H s) (rx:RelV x u) (ty:TyOf X.K H x t) (e:PySem.W.kitOne X.K t c=some b) (h:∀tk,Q (.bool b) { s with toks:=tk }) :
  wpAny (model X.prog X.w) A (call (.builtin "isinstance") [u,c]) Q E s:=by
 cases ty with
 | non=>cases (show u=Value.none from rx);exact PySem.W.kia_one PySem.W.kitx_none I.kIn True.intro e (fun z=>nomatch z) h
 | bl y=>cases (show u=Value.bool y from rx);exact PySem.W.kia_one PySem.W.kitx_bool I.kIn True.intro e (fun z=>nomatch z) h
 | int i=>obtain ⟨t,q⟩:=(show ∃t,u=Value.int i t from rx);cases q;exact PySem.W.kia_one PySem.W.kitx_int I.kIn True.intro e (fun z=>nomatch z) h
 | str y=>obtain ⟨t,q⟩:=(show ∃t,u=Value.str y t from rx);cases q;exact PySem.W.kia_one PySem.W.kitx_str I.kIn True.intro e (fun z=>nomatch z) h
 | flt y=>obtain ⟨t,q⟩:=(show ∃t,u=Value.float y t from rx);cases q;exact PySem.W.kia_one PySem.W.kitx_float I.kIn True.intro e (fun z=>nomatch z) h
 | @lst a xs ea=>
  cases (show u=Value.ref a from rx)
  obtain ⟨_,_,n,_,h1⟩:=(show ObjOk X.prog X.w H s.heap a (.lst xs) from I.hok a _ ea);exact PySem.W.kia_one PySem.W.kitx_list I.kIn ⟨_,h1,rfl⟩ e (fun z=>nomatch z) h
 | @frz a ob xs ea=>
  cases (show u=Value.ref a from rx)
  obtain ⟨_,_,_,n,_,h1⟩:=(show ObjOk X.prog X.w H s.heap a (.frz ob (.lst xs)) from I.hok a _ ea);exact PySem.W.kia_one PySem.W.kitx_list I.kIn ⟨_,h1,rfl⟩ e (fun z=>nomatch z) h
 | @tup a xs ea=>
  cases (show u=Value.ref a from rx)
  obtain ⟨_,_,_,p⟩:=(show ObjOk X.prog X.w H s.heap a (.tup xs) from I.hok a _ ea);obtain ⟨o,h1,h2,_⟩:=p;exact PySem.W.kia_one PySem.W.kitx_tuple I.kIn ⟨o,h1,h2⟩ e (fun z=>nomatch z) h
 | @dK a kvs ea=>
  cases (show u=Value.ref a from rx)
  obtain ⟨_,_,vs,_,p⟩:=(show ObjOk X.prog X.w H s.heap a (.dK kvs) from I.hok a _ ea);obtain ⟨o,es,ep,h1,h2,_⟩:=p;exact PySem.W.kia_one PySem.W.kitx_dict I.kIn ⟨o,h1,h2.1⟩ e (fun z=>nomatch z) h
 | @dT a kvs ea=>
  cases (show u=Value.ref a from rx)
  obtain ⟨_,_,xs,_,o,es,ep,h1,h2,_⟩:=(show ObjOk X.prog X.w H s.heap a (.dT kvs) from I.hok a _ ea);exact PySem.W.kia_one PySem.W.kitx_dict I.kIn ⟨o,h1,h2.1⟩ e (fun z=>nomatch z) h
 | @ins a C dx fs ea cl ha hn htk hm=>
  cases (show u=Value.ref a from rx)
  obtain ⟨mA,O,_⟩:=zlI I.hok ea;obtain ⟨od,J,_⟩:=O.look;exact PySem.W.kia_one (PySem.W.kitx_own (cl.get _) cl.hd ha hn htk hm) I.kIn J e (fun z=>nomatch z) h
end
structure Room (k:Nat) (A:Around):Prop where
 hd:A.handled=none
 dp:A.depth+3 * k+5 < recursionLimit
 un:A.units+16 * k+200 < cLine
theorem Room.mono {j k:Nat} {A:Around} (r:Room k A) (h:j<=k):Room j A:=⟨r.hd,by have:=r.dp;omega,by have:=r.un;omega⟩
theorem Room.deeper {k:Nat} {A:Around} (r:Room (k+1) A) (env:Env):Room k (A.deeper env):=
 ⟨r.hd,by have:=r.dp;show A.depth+1+3 * k+5 < _;omega,by have:=r.un;show A.units+3+16 * k+200 < _;omega⟩
theorem Room.depth {k:Nat} {A:Around} (r:Room k A):A.depth < recursionLimit:=by have:=r.dp;omega
theorem Room.units {k:Nat} {A:Around} (r:Room k A):A.units+64 < cLine:=by have:=r.un;omega
def tNil:TA:=fun _ H Q=>Q [] H
def zj9 (ta:TE) (tr:TA):TA:=fun σ H Q=>ta σ H fun x H1=>tr σ H1 fun xs H2=>Q (x::xs) H2
section
variable {X:Cx} {e:Expr} {es:List Expr} {te:TE} {t:TA} {pos:Pos}
theorem zdo:PA X [] tNil:=fun _ _ _ _ H Q I h=>Calls.spliced_nil ⟨[],H,I,.nil,h⟩
theorem zb7 (ha:PE X e te) (hr:PA X es t) (hs:starEach (e::es) X.env=(false,eval e X.env)::starEach es X.env:=by rfl):PA X (e::es) (zj9 te t):=by
 intro pos pins s σ H Q I h;rw[hs]
 show wpAny _ _ (spliced ((false,eval e X.env)::backTo pos (starEach es X.env))) _ _ s
 refine Calls.spliced_cons (thn (ha pins s σ H _ I h) fun u s1 hx__=>?_);obtain ⟨x,H1,I1,r1,q1⟩:=hx__;exact thn (hr pos pins s1 σ H1 _ I1 q1) fun us s2 ⟨xs,H2,I2,r2,q2⟩=>⟨x::xs,H2,I2,.cons r1 r2,q2⟩
def tTup (t:TA):TE:=fun σ H Q=>t σ H fun xs H1=>xs.length<=sizeLine/\∀p,H1 p=none->Q (.ref p) (upd H1 p (.tup xs))
def tLst (t:TA):TE:=fun σ H Q=>t σ H fun xs H1=>xs.length<=sizeLine/\∀p,H1 p=none->Q (.ref p) (upd H1 p (.lst xs))
theorem znE {x1} (h:PA X es t):PE X (.Tuple es x1 pos) (tTup t):=by
 intro pins s σ H Q I hq;refine wpAny_Tuple_spliced (thn (h pos pins s σ H _ I hq) fun us s1 ⟨xs,H1,I1,r,z,q⟩=>⟨by rw[<-r.length];exact z, ?_⟩);have hf:H1 s1.heap.objs.size=none:=I1.hok.fresh (Nat.le_refl _);refine ⟨.ref s1.heap.objs.size,upd H1 s1.heap.objs.size (.tup xs),I1.laid (t':=s1.toks) (fun b u e=>Heap.get?_push_of_some _ e) (Nat.le_refl _) ?_,rfl,q _ hf⟩;exact ⟨z,us,r,⟨_,Heap.get?_push_size _ rfl,rfl,_,rfl⟩⟩
theorem zmA (h:PA X es t):PE X (.List es pos) (tLst t):=by
 intro pins s σ H Q I hq;refine wpAny_List_spliced (thn (h pos pins s σ H _ I hq) fun us s1 ⟨xs,H1,I1,r,z,q⟩=>⟨by rw[<-r.length];exact z, ?_⟩);have hf:H1 s1.heap.objs.size=none:=I1.hok.fresh (Nat.le_refl _);refine ⟨.ref s1.heap.objs.size,upd H1 s1.heap.objs.size (.lst xs),I1.laid (t':=s1.toks) (fun b u e=>Heap.get?_push_of_some _ e) (Nat.le_refl _) ?_,rfl,q _ hf⟩;exact ⟨z,us,0,r,Heap.get?_push_size _ rfl⟩
end
abbrev Sp:=List V->Hp->VK->XK->Prop
abbrev CXT:=List Env->Hp->Shared->XK->Value->Shared->Prop
structure Env0 (P:Program) (w:World) (K:PySem.W.Frag) (mg:Str->Option Value) (base:Heap) (A:Around) (outer:List Env) (s:Shared) (H:Hp):Prop where
 frames:A.frames=some outer
 mod:Mod K mg base
 bs:∀b o,base.get? b=some o->s.heap.get? b=some o/\H b=none
 bsz:base.objs.size<=s.heap.objs.size
 funs:s.heap.FunFrames base outer
 frf:∀b∈frs outer,H b=none
 hok:HOk P w H s.heap
 bare:AllBare s.gens
def CE (outer:List Env) (P:Program) (w:World) (H:Hp) (s:Shared) (Q:VK) (u:Value) (s':Shared):Prop:=
 ∃v H',s'.os=s.os/\AllBare s'.gens/\Un (frs outer) [] H H' s.heap s'.heap/\HOk P w H' s'.heap/\RelV v u/\Q v H'
def CR (CX:CXT) (outer:List Env) (P:Program) (w:World) (H:Hp) (s:Shared) (Q:VK) (E:XK) (r:Result) (s':Shared):Prop:=
 match r with
 | .ok (.ret u)=>CE outer P w H s Q u s'
 | .ok _=>False
 | .error e=>CX outer H s E e s'
structure FnOk (P:Program) (w:World) (K:PySem.W.Frag) (mg:Str->Option Value) (base:Heap) (CX:CXT) (k:Nat) (f:Addr) (fd:FuncData) (ps:List Str) (sp:Sp):Prop where
 len:∀vs H Q E,sp vs H Q E->vs.length=ps.length
 run:∀(A:Around) (outer:List Env) (s:Shared) (H:Hp) (args:Args) (us:List Value) (vs:List V) (Q:VK) (E:XK),Room k A->Env0 P w K mg base A outer s H->BindsTo s fd args (ps.zip us)->Vals vs us->sp vs H Q E->
  codeAny (model P w) A (.call (.ref f) args) (CR CX outer P w H s Q E) s
section
variable {X:Cx} {pins:List (Addr×Obj)} {σ:St} {H:Hp} {s s':Shared}
theorem Inv.env0 (I:Inv X pins σ H s):Env0 X.prog X.w X.K X.mg X.base X.A X.stack s H:=
 ⟨I.ok.frames,I.ok.mod,I.bs,Nat.le_trans I.ok.bsz I.sz,I.stack,I.stkFree,I.hok,I.bare⟩
theorem Inv.after {Q:VK} {u:Value} (I:Inv X pins σ H s) (h:CE X.stack X.prog X.w H s Q u s'):EP X pins σ Q u s':=by
 obtain ⟨v,H',os,bare,un,hok,r,q⟩:=h;obtain ⟨hh,g,d,t,os'⟩:=s';obtain rfl:os'=s.os:=os;exact ⟨v,H',I.call (h':=hh) (g':=g) (d':=d) (t':=t) (ch:=[]) un hok bare (fun b z=>absurd z (by simp)),r,q⟩
end
def zm6 (sp:Sp) (dvs:List V) (E:XK) (t:TA):TE:=fun σ H Q=>t σ H fun vs H1=>sp (vs++dvs) H1 Q E
def Binds (K:PySem.W.Frag) (fd:FuncData) (ps:List Str) (ds:List Value):Prop:=
 ∀(s:Shared) (us:List Value),K.In s.heap->(us++ds).length=ps.length->BindsTo s fd ⟨us,[]⟩ (ps.zip (us++ds))
theorem Binds.all {K:PySem.W.Frag} {fd:FuncData} {ps:List Str} (h:∀us:List Value,us.length=ps.length->bindArgs fd ⟨us,[]⟩=pure (ps.zip us)):Binds K fd ps []:=fun s us _ hl=>by
 rw[List.append_nil] at hl ⊢;exact .of_eq (h us hl)
def zge (CX:CXT) (X:Cx) (E:XK):Prop:=∀(pins:List (Addr×Obj)) (σ:St) (H:Hp) (s:Shared) (e:Value) (s':Shared),Inv X pins σ H s->CX X.stack H s E e s'->X.xe e s'
section
variable {X:Cx} {CX:CXT} {k:Nat} {f C:Addr} {fd:FuncData} {ps:List Str} {sp:Sp} {dvs:List V} {ds:List Value} {E:XK} {x m:Str} {p pos apos:Pos} {e o:Expr} {es:List Expr} {ta:TE} {t:TA}
theorem znd {pins:List (Addr×Obj)} {σ:St} {H:Hp} {s:Shared} {Q:VK} {us:List Value} {vs:List V} (F:FnOk X.prog X.w X.K X.mg X.base CX k f fd ps sp) (hr:Room k X.A) (hb:Binds X.K fd ps ds) (hd:Vals dvs ds) (hx:zge CX X E)
  (I:Inv X pins σ H s) (r:Vals vs us) (h:sp (vs++dvs) H Q E):wpAny (model X.prog X.w) X.A (call (.ref f) us) (EP X pins σ Q) X.xe s:=by
 have r2:Vals (vs++dvs) (us++ds):=r.append hd;have hl:(us++ds).length=ps.length:=by rw[<-r2.length];exact F.len _ _ _ _ h
 refine wpAny_call (codeAny_mono (F.run X.A X.stack s H ⟨us,[]⟩ (us++ds) (vs++dvs) Q E hr I.env0 (hb s us I.kIn hl) r2 h) fun r s' hq=>?_)
 cases r with
 | error e=>exact hx pins σ H s e s' I hq
 | ok fl=>
  cases fl with
  | ret u=>exact I.after hq
  | next=>exact False.elim hq
  | brk=>exact False.elim hq
  | cont=>exact False.elim hq
theorem zlA (F:FnOk X.prog X.w X.K X.mg X.base CX k f fd ps sp) (hr:Room k X.A) (hg:Gl X x) (hm:X.mg x=some (.ref f)) (hk:PySem.W.keepIn X.K (.ref f)=true) (hb:Binds X.K fd ps ds) (hd:Vals dvs ds) (hx:zge CX X E)
  (ha:PA X (e::es) t) (hdb:(x==("__debug__":Str))=false:=by decide) (he:starEach (e::es) X.env=(false,eval e X.env)::starEach es X.env:=by rfl) (hpl:(backTo pos (starEach es X.env)).any (·.1)=false:=by rfl) :
  PE X (.Call (.Name x p) (e::es) [] pos) (zm6 sp dvs E t):=by
 intro pins s σ H Q I h;refine wpAny_Call_Name_kw (ziH I hg hm ?_ hdb);refine PySem.W.callWith_K (h₀:=X.base) I.ok.mod.kin hk (thn (ha pos pins s σ H _ I h) fun us s1 ⟨vs,H1,I1,r,q⟩=>⟨I1.kIn, ?_⟩) he hpl;exact znd F hr hb hd hx I1 r q
end
section
variable {X:Cx} {CX:CXT} {k:Nat} {f C:Addr} {fd:FuncData} {ps ks:List Str} {sp:Sp} {E:XK} {x m:Str} {p pos apos kpos:Pos} {e o:Expr} {es:List Expr} {kws:List Keyword} {te ta:TE} {t tk:TA} {nm:Option Str}
variable {g:List Value->List Value->List Value} {gV:List V->List V->List V}
end
structure zaw (N P:List Str) (sc:Scope):Prop where
 kind:sc.kind=.function
 co:sc.isCoroutine=false
 gen:sc.isGenerator=false
 nd:N.Nodup
 pre:N.take P.length=P
 par:∀x∈P,sc.names.lookup x=some .local\/sc.names.lookup x=some .cell
 nofree:∀y∈sc.names,y.2≠.free
theorem zf8 {kindOf:Str->Option NameKind} {x:Str}:∀{binds:List (Str×Value)} {m:Str->Option Value},(∀v,(x,v)∉binds)->bindL kindOf binds m x=m x
 | [],_,_=>rfl
 | (n,v)::r,m,h=>by
  unfold bindL;rw[zf8 fun w hw=>h w (List.mem_cons_of_mem _ hw)];split
  .have:x≠n:=by rintro rfl;exact h v List.mem_cons_self
   simp[this]
  .rfl
theorem zf6 {kindOf:Str->Option NameKind} {x:Str}:∀{binds:List (Str×Value)} {m:Str->Option Value},(∀v,(x,v)∉binds)->bindC kindOf binds m x=m x
 | [],_,_=>rfl
 | (n,v)::r,m,h=>by
  unfold bindC;rw[zf6 fun w hw=>h w (List.mem_cons_of_mem _ hw)];split
  .rfl
  .have:x≠n:=by rintro rfl;exact h v List.mem_cons_self
   simp[this]
theorem zgj {kindOf:Str->Option NameKind} {x:Str} {v:Value}:∀{P:List Str} {vs:List Value} {i:Nat} {m:Str->Option Value},P.Nodup->P[i]? = some x->vs[i]? = some v->kindOf x=some .local->
  bindL kindOf (P.zip vs) m x=some v
 | [],_,_,_,_,h,_,_=>by simp at h
 | _::_,[],_,_,_,_,h,_=>by simp at h
 | p::P,w::vs,0,m,nd,h1,h2,hk=>by
  simp at h1 h2;subst h1;subst h2
  show bindL kindOf ((p,w)::P.zip vs) m p=_
  unfold bindL;rw[zf8 fun v hv=>(List.nodup_cons.mp nd).1 (List.of_mem_zip hv).1,if_pos hk];simp
 | p::P,w::vs,i+1,m,nd,h1,h2,hk=>by
  show bindL kindOf ((p,w)::P.zip vs) m x=_
  unfold bindL;exact zgj (i:=i) (List.nodup_cons.mp nd).2 (by simpa using h1) (by simpa using h2) hk
theorem zgF {kindOf:Str->Option NameKind} {x:Str} {v:Value}:∀{P:List Str} {vs:List Value} {i:Nat} {m:Str->Option Value},P.Nodup->P[i]? = some x->vs[i]? = some v->kindOf x≠some .local->
  bindC kindOf (P.zip vs) m x=some v
 | [],_,_,_,_,h,_,_=>by simp at h
 | _::_,[],_,_,_,_,h,_=>by simp at h
 | p::P,w::vs,0,m,nd,h1,h2,hk=>by
  simp at h1 h2;subst h1;subst h2
  show bindC kindOf ((p,w)::P.zip vs) m p=_
  unfold bindC;rw[zf6 fun v hv=>(List.nodup_cons.mp nd).1 (List.of_mem_zip hv).1,if_neg hk];simp
 | p::P,w::vs,i+1,m,nd,h1,h2,hk=>by
  show bindC kindOf ((p,w)::P.zip vs) m x=_
  unfold bindC;exact zgF (i:=i) (List.nodup_cons.mp nd).2 (by simpa using h1) (by simpa using h2) hk
def start (N:List Str) (vs:List V):St:=vs.map some++List.replicate (N.length - vs.length) none
def cxOf (CX:CXT) (P:Program) (w:World) (K:PySem.W.Frag) (mg:Str->Option Value) (base:Heap) (N:List Str) (qual:Str) (scope:Scope) (f:Addr) (cd:Value) (A:Around) (outer:List Env) (s:Shared) (H:Hp) (E:XK):Cx where
 prog:=P
 w:=w
 K:=K
 mg:=mg
 base:=base
 A:=A.deeper (envOfC qual scope s.heap.objs.size f cd)
 N:=N
 s₀:=s
 H₀:=H
 env:=envOfC qual scope s.heap.objs.size f cd
 outer:=outer
 stack:=envOfC qual scope s.heap.objs.size f cd::outer
 ex:=[]
 calm:=true
 fn:=fun _=>true
 pn:=[]
 xe:=fun e s'=>wpAny (model P w) (A.deeper (envOfC qual scope s.heap.objs.size f cd)) (leaving (envOfC qual scope s.heap.objs.size f cd) e) (fun _ s''=>CX outer H s E e s'') (fun e' s''=>CX outer H s E e' s'') s'
theorem zhB {sc:Scope} {n:Nat} {x:Str} (h:sc.names.lookup x=some .cell):∃c,(cellsFrom n sc.names []).lookup x=some c:=by
 have q:=PySem.W.cellsFrom_some sc.names n [] (.inl h);exact Option.isSome_iff_exists.mp q
theorem ziO {CX:CXT} {P:Program} {w:World} {K:PySem.W.Frag} {mg:Str->Option Value} {base:Heap} {N ps:List Str} {qual:Str} {scope:Scope} {f:Addr} {cd:Value} {A:Around} {outer:List Env} {s s1:Shared} {H:Hp} {E:XK} {us:List Value} {vs:List V}
  (S:zaw N ps scope) (hd:A.handled=none) (e0:Env0 P w K mg base A outer s H) (hl:vs.length=ps.length) (r:Vals vs us)
  (x:InCallC s s.heap.objs.size (bindL (envOfC qual scope s.heap.objs.size f cd).kindOf (ps.zip us) fun _=>none) (cellsFrom (s.heap.objs.size+1) scope.names []) (bindC (envOfC qual scope s.heap.objs.size f cd).kindOf (ps.zip us) fun _=>none) s1) :
  Inv (cxOf CX P w K mg base N qual scope f cd A outer s H E) [] (start N vs) H s1:=by
 have hpl:ps.length<=N.length:=by have:=congrArg List.length S.pre;rw[List.length_take] at this;omega
 obtain ⟨h1,tk,rfl,hk⟩:=x.done;have noA:∀b:Addr,b∉(cxOf CX P w K mg base N qual scope f cd A outer s H E).ex:=fun b z=>absurd (show b∈([]:List Addr) from z) (by simp)
 refine ⟨⟨e0.mod,S.kind,rfl,rfl,Nat.le_refl _,fun y z c h1 h2=>?_,fun y hy=>?_,fun y c _ h=>?_,fun _=>hd,Around.frames_deeper e0.frames,.inr ⟨rfl,rfl⟩,fun b z=>absurd z (noA b),e0.bs,e0.bsz,fun b _ _=>noA b,fun b z=>absurd z (noA b),e0.funs,e0.frf⟩,
  rfl,e0.bare,Un.kept hk,⟨_,x.toInCall.ns,fun i y v h1 h2 h3=>?_⟩,fun y c h=>⟨_,x.cell y c h⟩,e0.hok.fresh (Nat.le_refl _),fun y c h=>?_,fun p hp=>absurd (show p∈([]:List (Addr×Obj)) from hp) (by simp),e0.hok.kept hk, ?_⟩
 .exact name_of_addr x.apart (PySem.mem_of_lookup h1) (PySem.mem_of_lookup h2)
 .have hy:scope.names.lookup y=some .cell\/scope.names.lookup y=some .free:=hy;rcases hy with hy | hy
  .exact zhB hy
  .exact absurd rfl (S.nofree _ (PySem.mem_of_lookup hy))
 .exact Nat.le_of_lt (x.above y c (PySem.mem_of_lookup h))
 .have hi:i < vs.length:=by
   unfold start at h2
   by_cases hi:i < vs.length
   .exact hi
   .rw[List.getElem?_append_right (by simpa using hi)] at h2;rw[List.getElem?_replicate] at h2;split at h2<;>cases h2
  have ha:vs[i]? = some v:=by
   unfold start at h2;rw[List.getElem?_append_left (by simpa using hi),List.getElem?_map] at h2
   cases e:vs[i]? with
   | none=>rw[e] at h2;cases h2
   | some a=>rw[e] at h2;cases h2;rfl
  obtain ⟨u,hu,rv⟩:=r.get ha;have hp:ps[i]? = some y:=by
   rw[<-S.pre,List.getElem?_take_of_lt (by omega)];exact h1
  have ndP:ps.Nodup:=by rw[<-S.pre];exact S.nd.sublist (List.take_sublist _ _)
  refine ⟨u,rv, ?_⟩;rcases S.par y (List.mem_of_getElem? hp) with k | k
  .exact .inl ⟨k,zgj ndP hp hu k⟩
  .obtain ⟨c,e⟩:=zhB (n:=s.heap.objs.size+1) k;refine .inr ⟨.inl k,c,e, ?_⟩;have q:=x.cell y c e;rw[zgF ndP hp hu (by show scope.names.lookup y≠_;rw[k];decide)] at q;exact q
 .exact e0.hok.fresh (Nat.le_of_lt (x.above y c (PySem.mem_of_lookup h)))
 .unfold start
  show _=N.length
  rw[List.length_append,List.length_map,List.length_replicate];omega
theorem zm9 {CX:CXT} {P:Program} {w:World} {K:PySem.W.Frag} {mg:Str->Option Value} {base:Heap} {k:Nat} {f:Addr} {name qual:Str} {params:Arguments} {body:List Stmt} {scope:Scope} {dV kV doc pm cdv ct oc:Value} {an od:Option Addr}
  {osl:Array (Option Value)} {N ps:List Str} {sp:Sp} (lk:K.lookup f=some ⟨oc,od,.func (PySem.W.fnOf name qual params body scope dV kV doc pm an cdv ct),osl⟩) (hcd:PySem.W.codeIn K cdv qual=true) (S:zaw N ps scope)
  (len:∀vs H Q E,sp vs H Q E->vs.length=ps.length)
  (hbody:∀(A:Around) (outer:List Env) (s:Shared) (H:Hp) (vs:List V) (Q:VK) (E:XK),Room k (A.deeper (envOfC qual scope s.heap.objs.size f cdv))->sp vs H Q E->
   ∃t,PSs (cxOf CX P w K mg base N qual scope f cdv A outer s H E) body t/\t { nx:=fun _ H'=>Q .non H',rt:=Q } (start N vs) H) :
  FnOk P w K mg base CX (k+1) f (PySem.W.fnOf name qual params body scope dV kV doc pm an cdv ct) ps sp:=by
 refine ⟨len,fun A outer s H args us vs Q E hr e0 hb r hsp=>?_⟩;have hl:=len _ _ _ _ hsp;have KX:K.In s.heap:=e0.mod.kin.keeps fun b o e=>(e0.bs b o e).1
 have lim:s.heap.NoLimit:=e0.mod.nolimit.keeps fun b o e=>(e0.bs b o e).1
 have hkind:∀y∈ps.zip us,scope.names.lookup y.1=some .local\/(scope.names.lookup y.1=some .cell/\((cellsFrom (s.heap.objs.size+1) scope.names []).lookup y.1).isSome=true):=fun ⟨n,v⟩ hy=>by
  rcases S.par n (List.of_mem_zip hy).1 with q | q
  .exact .inl q
  .exact .inr ⟨q,PySem.W.cellsFrom_some _ _ _ (.inl q)⟩
 refine codeAny_call_function hr.depth (KX _ _ lk) rfl S.co S.gen rfl (PySem.W.codeRec_of KX hcd) (hb _ _ _ _ ?_);refine wpAny_newFunctionEnv_cells S.kind hkind fun env he s1 x=>?_
 subst he;refine ⟨lim.keeps x.toInCall.keep,codeAny_func ?_⟩;obtain ⟨t,ht,hq⟩:=hbody A outer s H vs Q E (hr.deeper _) hsp;have I:Inv (cxOf CX P w K mg base N qual scope f cdv A outer s H E) [] (start N vs) H s1:=ziO S hr.hd e0 hl r x;refine wpAny_mono (ht [] s1 (start N vs) H _ I hq) (fun fl s' hs=>?_) fun e s' hs=>hs
 have fin:∀{σ':St} {H':Hp} {v:V} {u:Value},Inv (cxOf CX P w K mg base N qual scope f cdv A outer s H E) [] σ' H' s'->RelV v u->Q v H'->CE outer P w H s Q u s':=
  fun {σ' H' v u} J rv q=>⟨v,H',J.os,J.bare,J.base,J.hok,rv,q⟩
 cases fl with
 | ret u=>
  obtain ⟨v,σ',H',J,rv,q⟩:=hs;exact fin J rv q
 | next=>
  obtain ⟨σ',H',J,q⟩:=hs;exact fin (v:=V.non) (u:=Value.none) J rfl q
 | brk=>
  obtain ⟨_,_,_,q⟩:=hs;exact False.elim q
 | cont=>
  obtain ⟨_,_,_,q⟩:=hs;exact False.elim q
section
variable {X:Cx} {x:Str} {p pos:Pos} {e:Expr} {es:List Expr} {t:TA} {id T:String} {r:List V->Hp->VK->Prop}
def tCB (r:List V->Hp->VK->Prop) (t:TA):TE:=fun σ H Q=>t σ H fun vs H1=>r vs H1 Q
theorem zhm (hc:CallR X (.builtin id) r) (hg:Gl X x) (hm:X.mg x=none) (hv:bootBuiltins x=some (.builtin id)) (ha:PA X (e::es) t) (hn:x≠"__name__":=by decide) (hdb:(x==("__debug__":Str))=false:=by decide)
  (he:starEach (e::es) X.env=(false,eval e X.env)::starEach es X.env:=by rfl) (hpl:(backTo pos (starEach es X.env)).any (·.1)=false:=by rfl):PE X (.Call (.Name x p) (e::es) [] pos) (tCB r t):=by
 intro pins s σ H Q I h;refine wpAny_Call_Name_kw (zfx I hg hm hv ?_ hn hdb);exact PyProof.Rows.callWith_builtin1 (thn (ha pos pins s σ H _ I h) fun us s1 ⟨vs,H1,I1,r1,q1⟩=>hc pins s1 σ H1 vs us Q I1 r1 q1) he hpl
theorem zjH (hc:CallR X (.type T) r) (hg:Gl X x) (hm:X.mg x=none) (hv:bootBuiltins x=some (.type T)) (ha:PA X (e::es) t) (hn:x≠"__name__":=by decide) (hdb:(x==("__debug__":Str))=false:=by decide)
  (he:starEach (e::es) X.env=(false,eval e X.env)::starEach es X.env:=by rfl) (hpl:(backTo pos (starEach es X.env)).any (·.1)=false:=by rfl):PE X (.Call (.Name x p) (e::es) [] pos) (tCB r t):=by
 intro pins s σ H Q I h;refine wpAny_Call_Name_kw (zfx I hg hm hv ?_ hn hdb);exact PyProof.Rows.callWith_type1 (thn (ha pos pins s σ H _ I h) fun us s1 ⟨vs,H1,I1,r1,q1⟩=>hc pins s1 σ H1 vs us Q I1 r1 q1) he hpl
end
end L2
namespace HT
open PySem PyProof.Rows
section
open PySem.SeqAt
open PySem.AutoSeq1 (wpAny_loadPart')
open PySem.MeetsSeq PySem.MeetsSeq2 PySem.MeetsSeq3
end
section
variable {prog:Program} {w:World} {A:Around} {E:Value->Shared->Prop} {s:Shared}
def sIx (n d:Nat):Option Int->Nat
 | none=>d
 | some v=>if v < 0 then (v+(n:Int)).toNat else min v.toNat n
theorem zmK (n d:Nat) (hd:d<=n) (o:Option Int):sIx n d o<=n:=by
 cases o with
 | none=>exact hd
 | some v=>
  show (if v < 0 then (v+(n:Int)).toNat else min v.toNat n)<=n
  by_cases hv:v < 0
  .rw[if_pos hv];omega
  .rw[if_neg hv];exact Nat.min_le_right _ _
theorem ziP (v:Int) (n d:Nat):(if v < 0 then max (v+(n:Int)) 0 else min v (n:Int))=((sIx n d (some v):Nat):Int):=by
 show (if v < 0 then max (v+(n:Int)) 0 else min v (n:Int))=(((if v < 0 then (v+(n:Int)).toNat else min v.toNat n):Nat):Int)
 by_cases hv:v < 0
 .simp only[if_pos hv];omega
 .simp only[if_neg hv];omega
theorem zhY (lo hi:Option Int) (n:Nat):Builtin.Slice.sliceAdjust lo hi 1 (n:Int)=(((sIx n 0 lo:Nat):Int),((sIx n n hi:Nat):Int)):=by
 have h1:¬((1:Int) < 0):=by omega
 unfold Builtin.Slice.sliceAdjust;simp only[h1,if_false];refine Prod.ext ?_ ?_
 .cases lo with
  | none=>rfl
  | some v=>exact ziP v n 0
 .cases hi with
  | none=>rfl
  | some v=>exact ziP v n n
theorem zhU (i j:Nat):Builtin.Slice.slicePlaces (i:Int) (j:Int) 1=j - i:=by
 unfold Builtin.Slice.slicePlaces;have h1:(1:Int) > 0:=by omega
 simp only[h1,if_true,Int.ediv_one];split<;>omega
theorem zft {v:Value} {o:Option Int} {Q:Option Int->Shared->Prop} (p:IsPart v o) (h:Q o s):wpAny (model prog w) A (Builtin.Slice.slicePartIndex v) Q E s:=by
 cases p with
 | none=>exact slicePart_none h
 | int i t=>exact slicePart_int h
theorem zeG {sl:Addr} {vl vu:Value} {lo hi:Option Int} {n:Nat} {Q:Int×Int×Nat->Shared->Prop} (hs:s.heap.IsSliceOf sl vl vu .none) (pl:IsPart vl lo) (pu:IsPart vu hi)
  (h:Q (((sIx n 0 lo:Nat):Int),1,sIx n n hi - sIx n 0 lo) s):wpAny (model prog w) A (Builtin.Slice.sliceApplied (.ref sl) (pure (n:Int))) Q E s:=by
 obtain ⟨os,hos,hcs,hds⟩:=id hs;unfold Builtin.Slice.sliceApplied Builtin.Slice.sliceFields;refine wpAny_bind (wpAny_bind (wpAny_field hos hds (x:=vl) rfl (wpAny_bind (wpAny_field hos hds (x:=vu) rfl (wpAny_bind (wpAny_field hos hds (x:=.none) rfl (wpAny_pure ?_)))))));refine wpAny_bind (slicePart_none ?_)
 show wpAny _ _ (if ((1:Int)==0)=true then _ else _) _ _ s
 rw[if_neg (by decide)];refine wpAny_bind (zft pl (wpAny_bind (zft pu (wpAny_bind (wpAny_pure ?_)))))
 show wpAny _ _ (match Builtin.Slice.sliceAdjust lo hi 1 (n:Int) with | (lo,hi)=>pure (lo,(1:Int),Builtin.Slice.slicePlaces lo hi 1)) _ _ s
 rw[zhY lo hi n]
 show wpAny _ _ (pure (((sIx n 0 lo:Nat):Int),(1:Int),Builtin.Slice.slicePlaces ((sIx n 0 lo:Nat):Int) ((sIx n n hi:Nat):Int) 1)) _ _ s
 rw[zhU];exact wpAny_pure h
theorem zjV (xs:Array Value) (i k:Nat):((List.range k).filterMap fun (m:Nat)=>xs[((i:Int)+(m:Int) * 1).toNat]?).toArray=((xs.toList.drop i).take k).toArray:=by
 have e:(fun (m:Nat)=>xs[((i:Int)+(m:Int) * 1).toNat]?)=fun m=>xs[i+m]? := by
  funext m
  have:((i:Int)+(m:Int) * 1).toNat=i+m:=by omega
  rw[this]
 rw[e]
 have:=pick_run xs i k
 rw[List.filterMap_map] at this;have e2:((fun x=>xs[x]?) ∘ fun x=>i+x)=fun m=>xs[i+m]? := rfl
 rw[e2] at this;rw[this]
theorem zew {t sl:Addr} {items:Array Value} {vl vu:Value} {lo hi:Option Int} {Q:Value->Shared->Prop} (ht:IsTup s.heap t items) (hs:s.heap.IsSliceOf sl vl vu .none) (pl:IsPart vl lo) (pu:IsPart vu hi)
  (hw:¬(sIx items.size 0 lo=0/\sIx items.size items.size hi=items.size))
  (h:Q (.ref s.heap.objs.size) { s with heap:=s.heap.push { cls:=.type "tuple",data:=.seq ((items.toList.drop (sIx items.size 0 lo)).take (sIx items.size items.size hi - sIx items.size 0 lo)).toArray } })
  (hsz:items.size<=sizeLine):wpAny (model prog w) A (getItem (.ref t) (.ref sl)) Q E s:=by
 have htake:sizeOk (.seq ((items.toList.drop (sIx items.size 0 lo)).take (sIx items.size items.size hi - sIx items.size 0 lo)).toArray):=by
  show ((items.toList.drop (sIx items.size 0 lo)).take (sIx items.size items.size hi - sIx items.size 0 lo)).toArray.size<=sizeLine
  rw[List.size_toArray,List.length_take,List.length_drop,Array.length_toList];omega
 have hj:sIx items.size items.size hi<=items.size:=zmK _ _ (Nat.le_refl _) hi;obtain ⟨os,hos,hcs,hds⟩:=id hs;have hTs:s.TypeIs (.ref sl) "slice":=⟨os,hos,hcs⟩;unfold getItem
 try with_reducible refine wpAny_holding ?_
 first | refine wpAny_bind (wpAny_pure ?_) | skip
 refine wpAny_bind (wpAny_sequenceKey ht.typeIs (by decide) ?_);refine wpAny_bind (wpAny_callSpecial?_slot (name:=Str.ofString "__getitem__") ht.typeIs PyProof.Rows.slot_tuple_getitem
  (wpAny_call_entry PyProof.Rows.slot_tuple_getitem ht.typeIs entry_tuple_getitem ?_ (args_tuple_getitem _ _)))
 show wpAny _ _ (Builtin.Tuple.tupleItemsOf (.ref t) >>= _) _ _ s
 refine wpAny_bind (tupleItemsOf_ ht ?_);refine wpAny_bind (wpAny_typeOf hTs ?_);rw[if_pos (by decide)];refine wpAny_bind (zeG hs pl pu ?_);have hno:¬((((sIx items.size 0 lo:Nat):Int)==0&&(1:Int)==1&&(sIx items.size items.size hi - sIx items.size 0 lo)==items.size)=true):=by
  intro q;rw[Bool.and_eq_true,Bool.and_eq_true] at q;have q1:((sIx items.size 0 lo:Nat):Int)=0:=eq_of_beq q.1.1;have q2:sIx items.size items.size hi - sIx items.size 0 lo=items.size:=eq_of_beq q.2;exact hw ⟨by omega,by omega⟩
 show wpAny _ _ (if (((sIx items.size 0 lo:Nat):Int)==0&&(1:Int)==1&&(sIx items.size items.size hi - sIx items.size 0 lo)==items.size)=true then _ else _) _ _ s
 rw[if_neg hno,zjV]
 first
  | exact wpAny_bind (m:=Builtin.Tuple.tupleExact _) (wpAny_newObj_type (wpAny_pure ⟨_,rfl,wpAny_pure h⟩) htake)
  | exact wpAny_bind (m:=Builtin.Tuple.tupleExact _) (wpAny_newObj_type (wpAny_bind (wpAny_pure (wpAny_pure ⟨_,rfl,wpAny_pure h⟩))) htake)
  | exact wpAny_bind (wpAny_bind (m:=Builtin.Tuple.tupleExact _) (wpAny_newObj_type (wpAny_pure (wpAny_pure ⟨_,rfl,wpAny_pure h⟩)) htake))
  | exact wpAny_bind (wpAny_bind (m:=Builtin.Tuple.tupleExact _) (wpAny_newObj_type (wpAny_pure ⟨_,rfl,wpAny_pure h⟩) htake))
end
end HT
namespace L2
open PySem PySem.Spec PyProof.Rows
abbrev TO:=St->Hp->(Option Int->Hp->Prop)->Prop
def PO (X:Cx) (e:Option Expr) (t:TO):Prop:=
 ∀(pins:List (Addr×Obj)) (s:Shared) (σ:St) (H:Hp) (Q:Option Int->Hp->Prop),Inv X pins σ H s->t σ H Q->
  wpAny (model X.prog X.w) X.A (evalPart e X.env) (fun u s'=>∃o H',Inv X pins σ H' s'/\IsPart u o/\Q o H') X.xe s
def zk3:TO:=fun _ H Q=>Q none H
def zpL (t:TE):TO:=fun σ H Q=>t σ H fun x H1=>∃i,x=.int i/\Q (some i) H1
theorem zhV {ns:List Int}:∀{us:List Value},Vals (ns.map V.int) us->IntsAre us ns:=by
 induction ns with
 | nil=>intro us r;rw[List.map_nil] at r;cases r;exact .nil
 | cons n ns ih=>
  intro us r;rw[List.map_cons] at r
  cases r with
  | cons r1 r2=>
   obtain ⟨t,e⟩:=r1;subst e;exact .cons n t (ih r2)
section
variable {X:Cx} {e:Expr} {te:TE} {lo hi:Option Expr} {tl th:TO} {pos p2:Pos}
theorem zl9:PO X none zk3:=by
 intro pins s σ H Q I h;rw[evalPart_none];exact wpAny_pure ⟨none,H,I,.none,h⟩
theorem zlt (h:PE X e te):PO X (some e) (zpL te):=by
 intro pins s σ H Q I hw;rw[evalPart_some];refine thn (h pins s σ H _ I hw) fun u s1 hx__=>?_
 obtain ⟨x,H1,I1,r1,q1⟩:=hx__;obtain ⟨i,rfl,q⟩:=q1;obtain ⟨t,rfl⟩:=r1;exact ⟨some i,H1,I1,.int i t,q⟩
def SlR (X:Cx) (r:V->Option Int->Option Int->Hp->VK->Prop):Prop:=
 ∀(pins:List (Addr×Obj)) (s:Shared) (σ:St) (H:Hp) (x:V) (v vl vu:Value) (lo hi:Option Int) (sl:Addr) (Q:VK),Inv X pins σ H s->RelV x v->s.heap.IsSliceOf sl vl vu .none->IsPart vl lo->IsPart vu hi->r x lo hi H Q->
  ∃T id,typeLookup (.type T) "__getitem__"=pure (some (.builtin id))/\s.TypeIs v T/\wpAny (model X.prog X.w) X.A (getItem v (.ref sl)) (EP X pins σ Q) X.xe s
theorem SlR.or {r r':V->Option Int->Option Int->Hp->VK->Prop} (h:SlR X r) (h':SlR X r'):SlR X (fun x lo hi H Q=>r x lo hi H Q\/r' x lo hi H Q):=by
 intro pins s σ H x v vl vu lo hi sl Q I rx hs pl pu q;rcases q with q | q
 .exact h pins s σ H x v vl vu lo hi sl Q I rx hs pl pu q
 .exact h' pins s σ H x v vl vu lo hi sl Q I rx hs pl pu q
def tSl (r:V->Option Int->Option Int->Hp->VK->Prop) (te:TE) (tl th:TO):TE:=fun σ H Q=>te σ H fun x H1=>tl σ H1 fun l H2=>th σ H2 fun u H3=>r x l u H3 Q
theorem zjZ {r:V->Option Int->Option Int->Hp->VK->Prop} (hr:SlR X r) (he:PE X e te) (hl:PO X lo tl) (hu:PO X hi th):PE X (.Subscript e (.Slice lo hi none p2) pos) (tSl r te tl th):=by
 intro pins s σ H Q I h;refine Subscript_ (thn (he pins s σ H _ I h) fun v s1 hx__=>?_);obtain ⟨x,H1,I1,r1,q1⟩:=hx__;refine wpAny_Slice (thn (hl pins s1 σ H1 _ I1 q1) fun vl s2 ⟨l,H2,I2,pl,q2⟩=>thn (hu pins s2 σ H2 _ I2 q2) fun vu s3 hx__=>?_);obtain ⟨u,H3,I3,pu,q3⟩:=hx__;rw[evalPart_none];refine wpAny_pure ?_;have I4:Inv X pins σ H3 { s3 with heap:=s3.heap.push { cls:=.type "slice",data:=.fields #[vl,vu,.none] } }:=I3.kept (t':=s3.toks) fun b ob q=>Heap.get?_push_of_some _ q
 obtain ⟨T,id,hT,ht,hg⟩:=hr pins { s3 with heap:=s3.heap.push { cls:=.type "slice",data:=.fields #[vl,vu,.none] } } σ H3 x v vl vu l u s3.heap.objs.size Q I4 r1 (Heap.IsSliceOf.new ..) pl pu q3
 show wpAny (model X.prog X.w) X.A (subscriptTail e (.Slice lo hi none p2) v (.ref s3.heap.objs.size)) (EP X pins σ Q) X.xe { s3 with heap:=s3.heap.push { cls:=.type "slice",data:=.fields #[vl,vu,.none] } }
 exact tail_any (ops:=[.ref s3.heap.objs.size,v]) ht hT hg (by with_unfolding_all rfl)
def cutV (xs:List V) (lo hi:Option Int):List V:=(xs.drop (HT.sIx xs.length 0 lo)).take (HT.sIx xs.length xs.length hi - HT.sIx xs.length 0 lo)
theorem ze2 (xs:List V) (lo hi:Option Int):(cutV xs lo hi).length<=xs.length:=by
 unfold cutV;rw[List.length_take,List.length_drop];omega
def rSlT (K:PySem.W.Frag):V->Option Int->Option Int->Hp->VK->Prop:=fun x lo hi H Q=>∃a xs,x=.ref a/\SqT K H a xs/\
 ¬(HT.sIx xs.length 0 lo=0/\HT.sIx xs.length xs.length hi=xs.length)/\∀p,H p=none->Q (.ref p) (upd H p (.tup (cutV xs lo hi)))
theorem zmx:SlR X (rSlT X.K):=by
 intro pins s σ H x v vl vu lo hi sl Q I rx hs pl pu h;obtain ⟨a,xs,rfl,hx,hw,q⟩:=h;cases rx;obtain ⟨its,r,ht,hz⟩:=I.tuple hx;have hlen:its.toArray.size=xs.length:=by rw[List.size_toArray];exact r.length.symm
 refine ⟨"tuple",_,PyProof.Rows.slot_tuple_getitem.lookup,ht.typeIs, ?_⟩;refine HT.zew ht hs pl pu (by rw[hlen];exact hw) ?_ (by rw[hlen];exact hz);rw[hlen];refine ⟨.ref s.heap.objs.size,_,I.laid (t':=s.toks) (o:=.tup (cutV xs lo hi)) (fun b ob q=>Heap.get?_push_of_some _ q) (Nat.le_refl _) ?_,rfl,q _ (I.hok.fresh (Nat.le_refl _))⟩;exact ⟨Nat.le_trans (ze2 xs lo hi) hz,_,(r.drop (HT.sIx xs.length 0 lo)).take (HT.sIx xs.length xs.length hi - HT.sIx xs.length 0 lo),IsTup.new _ _⟩
end
def ixN (n:Nat) (i:Int):Option Nat:=if 0<=i then (if i < n then some i.toNat else none) else if -(n:Int)<=i then some (i+n).toNat else none
def atI {α:Type} (xs:List α) (i:Int):Option α:=(ixN xs.length i).bind fun j=>xs[j]?
theorem zjj {n:Nat} {i:Int} {j:Nat} (h:ixN n i=some j):seqIndex? i n=some j/\j < n/\-(n:Int)<=i/\i < n:=by
 unfold ixN at h
 by_cases h0:0<=i
 .rw[if_pos h0] at h
  by_cases h1:i < n
  .rw[if_pos h1] at h;have e:i.toNat=j:=Option.some.inj h;exact ⟨by rw[seqIndex_of h0 h1,e],by omega,by omega,h1⟩
  .rw[if_neg h1] at h;cases h
 .rw[if_neg h0] at h
  by_cases h1:-(n:Int)<=i
  .rw[if_pos h1] at h;have e:(i+n).toNat=j:=Option.some.inj h;exact ⟨by rw[seqIndex_neg (by omega) h1,e],by omega,h1,by omega⟩
  .rw[if_neg h1] at h;cases h
theorem zgZ {α:Type} {xs:List α} {i:Int} {v:α} (h:atI xs i=some v):∃j,seqIndex? i xs.length=some j/\xs[j]? = some v/\j < xs.length/\-(xs.length:Int)<=i/\i < xs.length:=by
 unfold atI at h
 cases e:ixN xs.length i with
 | none=>rw[e] at h;cases h
 | some j=>
  rw[e] at h;obtain ⟨h1,h2,h3,h4⟩:=zjj e;exact ⟨j,h1,h,h2,h3,h4⟩
theorem zlM {α:Type} {xs:List α} {j:Nat} {v:α} (h:xs[j]? = some v):atI xs (j:Int)=some v:=by
 have hj:j < xs.length:=(List.getElem?_eq_some_iff.mp h).1;have e:ixN xs.length (j:Int)=some j:=by
  unfold ixN;rw[if_pos (by omega),if_pos (by omega)];simp
 unfold atI;rw[e];exact h
def ziJ (b:Expr):Prop:=∀o i,subscripted b false o i=operate [o,i] (getItem o i)
def IxR (X:Cx) (r:R2):Prop:=
 ∀(value slice:Expr) (pins:List (Addr×Obj)) (s:Shared) (σ:St) (H:Hp) (x y:V) (v u:Value) (Q:VK),Inv X pins σ H s->RelV x v->RelV y u->r x y H Q->
  subscripted slice false v u=operate [v,u] (getItem v u)->wpAny (model X.prog X.w) X.A (subscriptTail value slice v u) (EP X pins σ Q) X.xe s
def MtR (X:Cx) (id:String) (r:V->List V->Hp->VK->Prop):Prop:=
 ∀(pins:List (Addr×Obj)) (s:Shared) (σ:St) (H:Hp) (x:V) (xs:List V) (v:Value) (us:List Value) (Q:VK),Inv X pins σ H s->RelV x v->Vals xs us->r x xs H Q->
  wpAny (model X.prog X.w) X.A (call (.builtin id) (v::us)) (EP X pins σ Q) X.xe s
section
variable {X:Cx} {a b:Expr} {ta tb:TE} {pos:Pos}
theorem IxR.or {r r':R2} (h:IxR X r) (h':IxR X r'):IxR X (fun x y H Q=>r x y H Q\/r' x y H Q):=by
 intro value slice pins s σ H x y v u Q I rx ry q hs;rcases q with q | q
 .exact h value slice pins s σ H x y v u Q I rx ry q hs
 .exact h' value slice pins s σ H x y v u Q I rx ry q hs
theorem zpy {r:R2} (hr:IxR X r) (ha:PE X a ta) (hb:PE X b tb) (hs:ziJ b):PE X (.Subscript a b pos) (tOp r ta tb):=by
 intro pins s σ H Q I h;exact Subscript_ (binT ha hb I h fun v u s2 x y H2 I2 rx ry q=>hr a b pins s2 σ H2 x y v u Q I2 rx ry q (hs _ _))
def rIxL (K:PySem.W.Frag):R2:=fun x y H Q=>∃p xs i v,x=.ref p/\y=.int i/\SqL K H p xs/\atI xs i=some v/\Q v H
def rIxT (K:PySem.W.Frag):R2:=fun x y H Q=>∃p xs i v,x=.ref p/\y=.int i/\SqT K H p xs/\atI xs i=some v/\Q v H
def rIxS:R2:=fun x y H Q=>∃z i c,x=.str z/\y=.int i/\z.length<=sizeLine/\atI z.cps.toList i=some c/\Q (.str ⟨#[c]⟩) H
theorem ix_list:IxR X (rIxL X.K):=by
 intro value slice pins s σ H x y v u Q I rx ry h hs;obtain ⟨p,xs,i,z,rfl,rfl,hq,he,q⟩:=h;cases rx;obtain ⟨t,rfl⟩:=ry;obtain ⟨its,r,pl,hz⟩:=I.list hq;obtain ⟨j,h1,h2,h3,h4,h5⟩:=zgZ he;obtain ⟨w,ew,rw'⟩:=r.get h2;have hl:=r.length;have hn:=zfr;have fin:EP X pins σ Q w s:=⟨z,H,I,rw',q⟩
 by_cases h0:0<=i
 .have hj:i.toNat=j:=by
   rw[seqIndex_of h0 h5] at h1;exact Option.some.inj h1
  exact item_listR pl.isList h0 (by omega) (by rw[hj];simpa using ew) fin hs
 .have hj:(i+(its.toArray.size:Int)).toNat=j:=by
   rw[seqIndex_neg (by omega) h4] at h1;rw[List.size_toArray,<-hl];exact Option.some.inj h1
  exact subscriptTail_builtinR (x:=w) pl.isList.typeIs slot_list_getitem.lookup
   (wpAny_getItem_list_neg (Q:=fun r s'=>r=w/\EP X pins σ Q r s') pl.isList (by omega) (by rw[List.size_toArray]<;>omega) (by omega) (by rw[hj];simpa using ew) ⟨rfl,fin⟩) hs
theorem ix_tup:IxR X (rIxT X.K):=by
 intro value slice pins s σ H x y v u Q I rx ry h hs;obtain ⟨p,xs,i,z,rfl,rfl,hq,he,q⟩:=h;cases rx;obtain ⟨t,rfl⟩:=ry;obtain ⟨its,r,pl,hz⟩:=I.tuple hq;obtain ⟨j,h1,h2,h3,h4,h5⟩:=zgZ he;obtain ⟨w,ew,rw'⟩:=r.get h2;have hl:=r.length;have hn:=zfr;have fin:EP X pins σ Q w s:=⟨z,H,I,rw',q⟩;exact subscriptTail_builtinR (x:=w) pl.typeIs slot_tuple_getitem.lookup
  (getItem_tuple (j:=j) (Q:=fun r s'=>r=w/\EP X pins σ Q r s') pl (by omega) (by omega) (by rw[List.size_toArray,<-hl];exact h1) (by simpa using ew) ⟨rfl,fin⟩) hs
theorem zm5:IxR X rIxS:=by
 intro value slice pins s σ H x y v u Q I rx ry h hs;obtain ⟨z,i,c,rfl,rfl,hz,he,q⟩:=h;obtain ⟨t,rfl⟩:=rx;obtain ⟨t',rfl⟩:=ry;obtain ⟨j,h1,h2,h3,h4,h5⟩:=zgZ he;have hl:z.cps.toList.length=z.length:=by simp[Str.length]
 rw[hl] at h1 h4 h5;have hn:=zfr;exact tail_any (typeIs_str s z t) slot_str_getitem.lookup (getItem_str (c:=c) (by
  have e1:decide (i < -(2 ^ 63:Int))=false:=decide_eq_false (by omega);have e2:decide (i≥2 ^ 63)=false:=decide_eq_false (by omega);rw[e1,e2,Bool.or_false]) (by rw[h1];simpa using h2) ⟨.str ⟨#[c]⟩,H,I.tok _,⟨_,rfl⟩,q⟩) hs
def rIx (K:PySem.W.Frag):R2:=fun x y H Q=>rIxL K x y H Q\/rIxT K x y H Q\/rIxS x y H Q
theorem zns:IxR X (rIx X.K):=ix_list.or (ix_tup.or zm5)
theorem zh0 (its:List Value) (n j:Nat) (u:Value):Obj.mapSeq (·.setIfInBounds j u) { cls:=.type "list",data:=.seq its.toArray n }={ cls:=.type "list",data:=.seq (its.set j u).toArray n }:=by
 simp[Obj.mapSeq]
theorem Inv.lst {pins:List (Addr×Obj)} {σ:St} {H:Hp} {s:Shared} {p:Addr} {xs:List V} (I:Inv X pins σ H s) (h:H p=some (.lst xs)) :
  ∃(its:List Value) (n:Nat),Vals xs its/\s.heap.get? p=some { cls:=.type "list",data:=.seq its.toArray n }/\xs.length<=sizeLine:=by
 obtain ⟨z,its,n,r,e⟩:=I.hok p _ h;exact ⟨its,n,r,e,z⟩
theorem Inv.lstUpd {pins:List (Addr×Obj)} {σ:St} {H:Hp} {s:Shared} {p:Addr} {xs ys:List V} {its its':List Value} {n n':Nat} {f:Obj->Obj} (I:Inv X pins σ H s) (h:H p=some (.lst xs))
  (ho:s.heap.get? p=some { cls:=.type "list",data:=.seq its.toArray n }) (hf:f { cls:=.type "list",data:=.seq its.toArray n }={ cls:=.type "list",data:=.seq its'.toArray n' }) (r:Vals ys its') (hz:ys.length<=sizeLine) (t:Nat) :
  Inv X pins σ (upd H p (.lst ys)) { s with heap:=s.heap.update p f,toks:=t }:=by
 have e:(s.heap.update p f).get? p=some { cls:=.type "list",data:=.seq its'.toArray n' }:=by
  rw[Heap.get?_update_self f ho (by rw[hf]<;>rfl),hf]
 refine I.write (x:=p) (e:=p) (by rw[h];trivial) (.inl rfl) (fun b u hb q=>(Heap.get?_update_other _ _ (Ne.symm hb)).trans q) ⟨_,e⟩ ?_;exact ⟨hz,its',n',r,e⟩
def znD:V->V->V->Hp->(Hp->Prop)->Prop:=fun o i v H Q=>∃p xs k j,o=.ref p/\i=.int k/\H p=some (.lst xs)/\ixN xs.length k=some j/\Q (upd H p (.lst (xs.set j v)))
theorem zkj:PSet X znD:=by
 intro pins s σ H o i v ov iv u Q I ro ri rv h;obtain ⟨p,xs,k,j,rfl,rfl,hp,hj,q⟩:=h;cases ro;obtain ⟨t,rfl⟩:=ri;obtain ⟨its,n,r,ho,hz⟩:=I.lst hp;obtain ⟨h1,h2,h3,h4⟩:=zjj hj;have hl:=r.length;have hn:=zfr;have I':Inv X pins σ (upd H p (.lst (xs.set j v))) { s with heap:=s.heap.update p (Obj.mapSeq (·.setIfInBounds j u)) }:=
  I.lstUpd hp ho (zh0 its n j u) (r.set rv j) (by rw[List.length_set];exact hz) s.toks
 by_cases h0:0<=k
 .have hk:k.toNat=j:=by
   rw[seqIndex_of h0 h4] at h1;exact Option.some.inj h1
  exact PySem.W.ki_setAt ho h0 (by omega) (by rw[List.size_toArray,<-hl];exact h4) (by rw[hk];exact ⟨_,I',q⟩)
 .have hk:(k+(its.toArray.size:Int)).toNat=j:=by
   rw[seqIndex_neg (by omega) h3] at h1;rw[List.size_toArray,<-hl];exact Option.some.inj h1
  exact PySem.W.ki_setBack ho (by omega) (by rw[List.size_toArray,<-hl];exact h3) (by omega) (by rw[hk];exact ⟨_,I',q⟩)
theorem zfX (lo hi:Option Int) (n:Nat):(sliceBounds lo hi none n).1=((HT.sIx n 0 lo:Nat):Int)/\(sliceBounds lo hi none n).2.1=((HT.sIx n n hi:Nat):Int)/\(sliceBounds lo hi none n).2.2=1:=by
 refine ⟨?_, ?_,rfl⟩
 .cases lo with
  | none=>simp[sliceBounds,HT.sIx]
  | some i=>
   simp only[sliceBounds,HT.sIx,Option.getD_none,show (1:Int) > 0 by decide,if_true]
   by_cases h:i < 0
   .simp only[h,if_true]<;>omega
   .simp only[h,if_false]<;>omega
 .cases hi with
  | none=>simp[sliceBounds,HT.sIx]
  | some i=>
   simp only[sliceBounds,HT.sIx,Option.getD_none,show (1:Int) > 0 by decide,if_true]
   by_cases h:i < 0
   .simp only[h,if_true]<;>omega
   .simp only[h,if_false]<;>omega
theorem zfE (its:List Value) (lo hi:Option Int):slicePick its.toArray lo hi none=((its.drop (HT.sIx its.length 0 lo)).take (HT.sIx its.length its.length hi - HT.sIx its.length 0 lo)).toArray:=by
 obtain ⟨h1,h2,h3⟩:=zfX lo hi its.toArray.size;unfold slicePick;rw[h1,h2,h3];simp only[sliceRange_one,pick_run,List.size_toArray]<;>rfl
def rSlL (K:PySem.W.Frag):V->Option Int->Option Int->Hp->VK->Prop:=fun x lo hi H Q=>∃a xs,x=.ref a/\SqL K H a xs/\∀p,H p=none->Q (.ref p) (upd H p (.lst (cutV xs lo hi)))
theorem sl_list:SlR X (rSlL X.K):=by
 intro pins s σ H x v vl vu lo hi sl Q I rx hs pl pu h;obtain ⟨a,xs,rfl,hx,q⟩:=h;cases rx;obtain ⟨its,r,ht,hz⟩:=I.list hx;have hlen:=r.length;refine ⟨"list",_,slot_list_getitem.lookup,ht.isList.typeIs, ?_⟩;refine wpAny_getItem_list_slice ht.isList hs pl pu .none (by simp) ?_ (by rw[List.size_toArray]<;>omega);rw[zfE,<-hlen];refine ⟨.ref s.heap.objs.size,_,I.laid (t':=s.toks) (o:=.lst (cutV xs lo hi)) (fun b ob q=>Heap.get?_push_of_some _ q) (Nat.le_refl _) ?_,rfl,q _ (I.hok.fresh (Nat.le_refl _))⟩;exact ⟨Nat.le_trans (ze2 xs lo hi) hz,_,0,(r.drop (HT.sIx xs.length 0 lo)).take (HT.sIx xs.length xs.length hi - HT.sIx xs.length 0 lo),Heap.get?_push_size _ rfl⟩
theorem zf5:CallR X (.builtin "len") (fun xs H Q=>∃p ys,xs=[.ref p]/\(SqL X.K H p ys\/SqT X.K H p ys)/\Q (.int ys.length) H):=by
 intro pins s σ H xs us Q I r h;obtain ⟨p,ys,rfl,hq,q⟩:=h;obtain ⟨u,rfl,rx⟩:=zhb r;cases rx;have hn:=zfr;rcases hq with hq | hq
 .obtain ⟨its,r',pl,hz⟩:=I.list hq;have hlen:=r'.length;exact Calls.call_len_list pl.isList (by simp only[List.size_toArray]<;>omega) ⟨.int ys.length,H,I.tok _,⟨s.toks+1,by rw[List.size_toArray,hlen]⟩,q⟩
 .obtain ⟨its,r',pl,hz⟩:=I.tuple hq;have hlen:=r'.length;exact len_tuple pl (by simp only[List.size_toArray]<;>omega) ⟨.int ys.length,H,I.tok _,⟨s.toks+1,by rw[List.size_toArray,hlen]⟩,q⟩
theorem zgk:CallR X (.type "list") (fun xs H Q=>∃p ys,xs=[.ref p]/\(SqL X.K H p ys\/SqT X.K H p ys)/\∀l,H l=none->Q (.ref l) (upd H l (.lst ys))):=by
 intro pins s σ H xs us Q I r h;obtain ⟨p,ys,rfl,hq,q⟩:=h;obtain ⟨u,rfl,rx⟩:=zhb r;cases rx;have fin:∀(its:List Value),Vals ys its->ys.length<=sizeLine->∀(h':Heap) (c':Nat),(∀b o',s.heap.get? b=some o'->h'.get? b=some o')->
   h'.get? s.heap.objs.size=some { cls:=.type "list",dict:=none,data:=.seq its.toArray c',slots:=#[] }->EP X pins σ Q (.ref s.heap.objs.size) { s with heap:=h' }:=fun its r' hz h' c' kp e=>
  ⟨.ref s.heap.objs.size,_,I.laid (t':=s.toks) kp (Nat.le_refl _) (show ObjOk X.prog X.w _ h' _ (.lst ys) from ⟨hz,its,c',r',e⟩),rfl,q _ (I.hok.fresh (Nat.le_refl _))⟩
 rcases hq with hq | hq
 .obtain ⟨its,r',pl,hz⟩:=I.list hq;have hlen:=r'.length;obtain ⟨o,ho,hc,n,hd⟩:=pl.isList;exact call_list_seq p (.inl rfl) ho hc hd (fun h' c' kp e=>fin its r' hz h' c' kp e) (by simp only[List.size_toArray]<;>omega)
 .obtain ⟨its,r',pl,hz⟩:=I.tuple hq;have hlen:=r'.length;obtain ⟨o,ho,hc,n,hd⟩:=pl;exact call_list_seq p (.inr rfl) ho hc hd (fun h' c' kp e=>fin its r' hz h' c' kp e) (by simp only[List.size_toArray]<;>omega)
def tyV (K:PySem.W.Frag) (T:String) (x:V) (H:Hp):Prop:=match x with
 | .str _=>T="str"
 | .int _=>T="int"
 | .ref p=>(T="list"/\∃xs,SqL K H p xs)\/(T="tuple"/\∃o,K.lookup p=some o/\o.cls=.type "tuple"/\o.dict=none)\/
   (T="dict"/\((∃kvs,H p=some (.dK kvs))\/∃kvs,H p=some (.dT kvs)))\/(T="set"/\∃S n,H p=some (.set S n))
 | _=>False
theorem zkx {pins:List (Addr×Obj)} {σ:St} {H:Hp} {s:Shared} {T:String} {x:V} {v:Value} (I:Inv X pins σ H s) (r:RelV x v) (ty:tyV X.K T x H) :
  s.TypeIs v T/\∀a,v=.ref a->∃ob,s.heap.get? a=some ob/\ob.dict=none:=by
 cases x with
 | str z=>
  obtain ⟨t,rfl⟩:=r
  cases (show T="str" from ty)
  exact ⟨typeIs_str s z t,fun _ e=>nomatch e⟩
 | int i=>
  obtain ⟨t,rfl⟩:=r
  cases (show T="int" from ty)
  exact ⟨typeIs_int s i t,fun _ e=>nomatch e⟩
 | ref p=>
  cases r;rcases ty with ⟨rfl,xs,hq⟩ | ⟨rfl,o,hk,hc,hd⟩ | ⟨rfl,hk⟩ | ⟨rfl,S,n,hk⟩
  .obtain ⟨its,_,pl,_⟩:=I.list hq;refine ⟨pl.isList.typeIs,fun a e=>?_⟩;cases e;obtain ⟨o,n,e,c,hd,_⟩:=pl;exact ⟨o,e,hd⟩
  .refine ⟨⟨o,I.kIn p o hk,hc⟩,fun a e=>?_⟩;cases e;exact ⟨o,I.kIn _ o hk,hd⟩
  .have z:∃o,s.heap.get? p=some o/\o.ExactDict:=by
    rcases hk with ⟨kvs,hk⟩ | ⟨kvs,hk⟩
    .obtain ⟨_,_,_,_,o,_,_,e,ex,_⟩:=I.hok p _ hk;exact ⟨o,e,ex⟩
    .obtain ⟨_,_,_,_,o,_,_,e,ex,_⟩:=I.hok p _ hk;exact ⟨o,e,ex⟩
   obtain ⟨o,e,ex⟩:=z;refine ⟨⟨o,e,ex.1⟩,fun a e2=>?_⟩;cases e2;exact ⟨o,e,ex.2.1⟩
  .obtain ⟨o,_,_,_,e,ex,_⟩:=I.hok p _ hk;refine ⟨⟨o,e,ex.1⟩,fun a e2=>?_⟩;cases e2;exact ⟨o,e,ex.2.1⟩
 | _=>exact False.elim ty
def tBM0 (K:PySem.W.Frag) (T:String) (r:V->List V->Hp->VK->Prop) (to:TE):TE:=fun σ H Q=>to σ H fun x H1=>tyV K T x H1/\r x [] H1 Q
def tBM (K:PySem.W.Frag) (T:String) (r:V->List V->Hp->VK->Prop) (to:TE) (t:TA):TE:=fun σ H Q=>to σ H fun x H1=>tyV K T x H1/\t σ H1 fun xs H2=>r x xs H2 Q
variable {o e:Expr} {es:List Expr} {to:TE} {t:TA} {name:Str} {apos cpos:Pos} {T id:String} {r:V->List V->Hp->VK->Prop}
theorem zmr (pa:PlainAttrs T) (slot:Slot T name id) (hty:typeOf (.builtin id)=pure (.type "method_descriptor")) (hm:MtR X id r) (ho:PE X o to)
  (hbase:attributeBase o name X.env (eval o X.env)=eval o X.env:=by rfl) (hline:(apos.endLine==cpos.line)=true:=by rfl):PE X (.Call (.Attribute o name apos) [] [] cpos) (tBM0 X.K T r to):=by
 intro pins s σ H Q I h;refine wpAny_Call_method0_late hbase hline (thn (ho pins s σ H _ I h) fun v s1 hx__=>?_);obtain ⟨x,H1,I1,r1,ty,q1⟩:=hx__;obtain ⟨h1,h2⟩:=zkx I1 r1 ty;exact ⟨T,id,pa,slot,hty,h1,h2,Calls.callWith_builtin rfl (PySem.evalArgs_none (hm pins s1 σ H1 x [] v [] Q I1 r1 .nil q1))⟩
theorem zih (pa:PlainAttrs T) (slot:Slot T name id) (hty:typeOf (.builtin id)=pure (.type "method_descriptor")) (hm:MtR X id r) (ho:PE X o to) (ha:PA X (e::es) t)
  (hbase:attributeBase o name X.env (eval o X.env)=eval o X.env:=by rfl)
  (hfew:((backTo cpos (starEach (e::es) X.env)).all (fun x=>!x.1)&&(backToKw cpos (keywordEach [] X.env)).all (fun x=>x.1.isSome)
   && decide ((e::es).length+([]:List Keyword).length+(if ([]:List Keyword).isEmpty then 0 else 1) < 30))=true:=by rfl)
  (hline:(apos.endLine==cpos.line)=true:=by rfl) (hs:starEach (e::es) X.env=(false,eval e X.env)::starEach es X.env:=by rfl) (hplain:(backTo cpos (starEach es X.env)).any (·.1)=false:=by rfl) :
  PE X (.Call (.Attribute o name apos) (e::es) [] cpos) (tBM X.K T r to t):=by
 intro pins s σ H Q I h;refine wpAny_Call_method_late hbase hfew hline rfl (thn (ho pins s σ H _ I h) fun v s1 hx__=>?_);obtain ⟨x,H1,I1,r1,ty,q1⟩:=hx__;obtain ⟨h1,h2⟩:=zkx I1 r1 ty;refine ⟨T,id,pa,slot,hty,h1,h2, ?_⟩;have hA:=ha cpos pins s1 σ H1 _ I1 q1;rw[hs] at hA ⊢;refine Calls.callWith_builtin (by show (false || (backTo cpos (starEach es X.env)).any (·.1))=false;rw[hplain]<;>rfl) (Calls.evalArgs_plain ?_);exact thn hA fun us s2 ⟨vs,H2,I2,r2,q2⟩=>hm pins s2 σ H2 x vs v us Q I2 r1 r2 q2
end
def MtM (X:Cx) (id:String) (r:V->List V->Hp->VK->Prop):Prop:=
 ∀(pins:List (Addr×Obj)) (s:Shared) (σ:St) (H:Hp) (x:V) (xs:List V) (v:Value) (us:List Value) (Q:VK),Inv X pins σ H s->RelV x v->Vals xs us->r x xs H Q->
  wpAny (model X.prog X.w) X.A (call (.builtin id) (v::us)) (EP X pins σ Q) X.xe s
theorem Vals.one {x:V} {us:List Value} (h:Vals [x] us):∃u,us=[u]/\RelV x u:=by
 cases h with
 | cons r t=>cases t;exact ⟨_,rfl,r⟩
theorem Vals.reverse {xs:List V} {us:List Value} (h:Vals xs us):Vals xs.reverse us.reverse:=by
 induction h with
 | nil=>exact .nil
 | cons r t ih=>rw[List.reverse_cons,List.reverse_cons];exact Vals.append ih (.cons r .nil)
theorem Vals.rep {xs:List V} {us:List Value} (h:Vals xs us):∀k:Nat,Vals (List.replicate k xs).flatten (List.replicate k us).flatten
 | 0=>.nil
 | k+1=>by
  rw[List.replicate_succ,List.replicate_succ,List.flatten_cons,List.flatten_cons];exact Vals.append h (Vals.rep h k)
theorem zgy (its:List Value):∀(k:Nat) (acc:List Value),
  List.foldl (fun x1 x2=>x1++x2) acc.toArray (List.replicate k its.toArray)=(acc++(List.replicate k its).flatten).toArray
 | 0,acc=>by simp
 | k+1,acc=>by
  have e:acc.toArray++its.toArray=(acc++its).toArray:=by simp
  have e2:(acc++its)++(List.replicate k its).flatten=acc++(List.replicate (k+1) its).flatten:=by
   rw[List.replicate_succ,List.flatten_cons,List.append_assoc]
  rw[<-e2,<-zgy its k (acc++its),<-e,List.replicate_succ,List.foldl_cons]
section
variable {X:Cx} {pins:List (Addr×Obj)} {σ:St} {H:Hp} {s:Shared} {l b:Addr} {xs ys zs:List V}
theorem Inv.lset {its its':List Value} {n:Nat} {f:Array Value->Array Value} {t':Nat} (I:Inv X pins σ H s) (hH:H l=some (.lst xs))
  (e:s.heap.get? l=some { cls:=.type "list",data:=.seq its.toArray n }) (hf:f its.toArray=its'.toArray) (hv:Vals ys its') (hz:ys.length<=sizeLine) :
  Inv X pins σ (upd H l (.lst ys)) { s with heap:=s.heap.update l (Obj.mapSeq f),toks:=t' }:=by
 have q:=PySem.IsL.update e f;rw[hf] at q;refine I.write (x:=l) (e:=l) (by rw[hH];exact trivial) (.inl rfl) (fun b' u hb hu=>(Heap.get?_update_other s.heap (Obj.mapSeq f) (Ne.symm hb)).trans hu) ⟨_,q⟩ ?_;exact ⟨hz,its',_,hv,q⟩
theorem Inv.lnew {its:List Value} {t':Nat} (I:Inv X pins σ H s) (hv:Vals ys its) (hz:ys.length<=sizeLine) :
  Inv X pins σ (upd H s.heap.objs.size (.lst ys)) { s with heap:=s.heap.push { cls:=.type "list",data:=.seq its.toArray },toks:=t' }:=
 I.laid (fun _ _ q=>Heap.get?_push_of_some _ q) (Nat.le_refl _) ⟨hz,its,0,hv,Heap.get?_push_size _ rfl⟩
theorem Inv.fresh (I:Inv X pins σ H s):H s.heap.objs.size=none:=I.hok.fresh (Nat.le_refl _)
theorem Inv.lstM (I:Inv X pins σ H s) (hH:H l=some (.lst xs)):xs.length<=sizeLine/\∃(its:List Value) (n:Nat),Vals xs its/\xs.length=its.length/\s.heap.get? l=some { cls:=.type "list",data:=.seq its.toArray n }:=by
 obtain ⟨z,its,n,r,e⟩:=I.hok l _ hH;exact ⟨z,its,n,r,r.length,e⟩
theorem zkt {n:Nat} (h:n<=sizeLine):Builtin.List.listTooLong n=false:=by
 unfold Builtin.List.listTooLong;exact decide_eq_false (by omega)
end
section
variable {X:Cx}
def zgY:V->List V->Hp->VK->Prop:=fun x vs H Q=>∃l xs y,x=.ref l/\vs=[y]/\H l=some (.lst xs)/\xs.length < sizeLine/\Q .non (upd H l (.lst (xs++[y])))
theorem zc8:MtM X "list.append" zgY:=by
 intro pins s σ H x vs v us Q I rx rv h;obtain ⟨l,xs,y,rfl,rfl,hH,hz,q⟩:=h;cases rx;obtain ⟨u,rfl,ru⟩:=rv.one;obtain ⟨z,its,n,r,hl,e⟩:=I.lstM hH;refine call_meets F.slot_list_append ⟨_,e,rfl⟩ F.entry_list_append (F.args_list_append_2 _ _) (PySem.list_append l its.toArray n u (by rw[List.size_toArray];omega)) ⟨e, ?_⟩;refine ⟨.non,_,I.lset (its':=its++[u]) hH e (by simp) (r.append (.cons ru .nil)) ?_,rfl,q⟩;rw[List.length_append,List.length_singleton];omega
def rCat:R2:=fun x y H Q=>∃l b xs zs,x=.ref l/\y=.ref b/\H l=some (.lst xs)/\H b=some (.lst zs)/\xs.length+zs.length<=sizeLine/\∀p,H p=none->Q (.ref p) (upd H p (.lst (xs++zs)))
theorem znB:OpR X (binaryOp .Add) rCat:=by
 intro pins s σ H x y v u Q I rx ry h;obtain ⟨l,b,xs,zs,rfl,rfl,hH,hB,hz,q⟩:=h;cases rx;cases ry;obtain ⟨z,its,n,r,hl,e⟩:=I.lstM hH;obtain ⟨z2,its2,n2,r2,hl2,e2⟩:=I.lstM hB;refine PySem.P.add_list e e2 ?_ (by rw[List.size_toArray,List.size_toArray];omega);have ea:its.toArray++its2.toArray=(its++its2).toArray:=by simp
 rw[ea];exact ⟨.ref _,_,I.lnew (t':=s.toks) (r.append r2) (by rw[List.length_append];omega),rfl,q _ I.fresh⟩
def rRep:R2:=fun x y H Q=>∃l k xs,x=.ref l/\y=.int k/\H l=some (.lst xs)/\-(2 ^ 63)<=k/\k < 2 ^ 63/\xs.length * k.toNat<=sizeLine/\
 ∀p,H p=none->Q (.ref p) (upd H p (.lst (List.replicate k.toNat xs).flatten))
theorem zlL {α:Type} (xs:List α) (k:Nat):(List.replicate k xs).flatten.length=k * xs.length:=by
 induction k with
 | zero=>simp
 | succ k ih=>rw[List.replicate_succ,List.flatten_cons,List.length_append,ih,Nat.succ_mul,Nat.add_comm]
theorem zn1:OpR X (binaryOp .Mult) rRep:=by
 intro pins s σ H x y v u Q I rx ry h;obtain ⟨l,k,xs,rfl,rfl,hH,h1,h2,hz,q⟩:=h;cases rx;obtain ⟨t,rfl⟩:=ry;obtain ⟨z,its,n,r,hl,e⟩:=I.lstM hH;have hlen:its.toArray.size * k.toNat<=sizeLine:=by rw[List.size_toArray,<-hl];exact hz
 have hcap:¬its.toArray.size * k.toNat > (2 ^ 63 - 1) / 8:=by
  have:(sizeLine:Nat)<=(2 ^ 63 - 1) / 8:=by decide
  omega
 have hfit:¬(!Builtin.List.listFitsIndex k)=true:=by
  rw[fitsIndex_both h1 h2];exact Bool.false_ne_true
 have hlong:¬Builtin.List.listTooLong (its.toArray.size * k.toNat)=true:=by
  rw[zkt hlen];exact Bool.false_ne_true
 have hnew:List.foldl (fun x1 x2=>x1++x2) #[] (List.replicate (if its.toArray.isEmpty=true then 0 else k.toNat) its.toArray)=(List.replicate k.toNat its).flatten.toArray:=by
  have f0:∀m:Nat,List.foldl (fun x1 x2=>x1++x2) #[] (List.replicate m its.toArray)=(List.replicate m its).flatten.toArray:=fun m=>by
   have:=zgy its m []
   rw[List.nil_append] at this;exact this
  rw[f0]
  cases its with
  | nil=>simp
  | cons a r'=>rw[if_neg (by simp)]
 refine wpAny_binaryOp_repeat_ref (T:="list") (U:="int") (by decide) ⟨_,e,rfl⟩ (fun s'=>typeIs_int s' k t) noFill_list_mul F.fills_int_mul F.slot_int_rmul repeat_list F.slot_int_index.lookup
  (call_meets F.slot_int_rmul (typeIs_int s k t) F.entry_int_rmul (F.args_int_rmul_2 _ _) (int___rmul___int_list k t l its.toArray n)
   ⟨e,rfl,⟨_,e,rfl⟩,call_meets F.slot_list_mul ⟨_,e,rfl⟩ F.entry_list_mul (F.args_list_mul_2 _ _) (AutoListH.list___mul___list_int_3 l its.toArray n k t hfit hcap hlong) ⟨e, ?_⟩⟩)
 rw[hnew];exact ⟨.ref _,_,I.lnew (t':=s.toks) (r.rep k.toNat) (by rw[zlL,Nat.mul_comm];exact hz),rfl,q _ I.fresh⟩
end
section
variable {prog:Program} {w:World} {A:Around} {E:Value->Shared->Prop} {s:Shared}
end
section
variable {X:Cx}
end
end L2
namespace Att
open PySem PySem.W PySem.Calls PyProof.Rows
theorem zeQ {P:Params} {h:Heap}:∀(ns:List Int) (vs:List Value),WellAll P h vs (ns.map WData.int)->IntsAre vs ns:=by
 intro ns
 induction ns with
 | nil=>
  intro vs w;rw[List.map_nil] at w;cases w;exact .nil
 | cons n ns ih=>
  intro vs w;rw[List.map_cons] at w
  cases w with
  | cons a b=>
   cases a;exact .cons _ _ (ih _ b)
theorem zjD {l:OpenLaw} {n:Nat} (hn:l.most=some n) {P:Params} {h:Heap} {args:List WData} {vals:List Value}
  (hpre:l.row.toRowW.claim.pre args=true) (hwl:WellAll P h vals args) :
  ∃a vs ns,vals=[Value.ref a]/\args=[WData.list (ns.map WData.int)]/\h.get? a=some { cls:=.type "list",data:=.seq vs.toArray }/\IntsAre vs ns/\ns.length<=n:=by
 have hsh:WShape.hasAll [] args [.list .int]=true:=(pre_splitW hpre).1;have hc:l.pre.holds [] { args:=args }=true:=(pre_splitW hpre).2;obtain ⟨d,r,rfl,h1,h2⟩:=hasAllW_cons hsh;obtain rfl:=hasAllW_nil h2;obtain ⟨xs,rfl,h3⟩:=hasW_list h1;obtain ⟨ns,rfl⟩:=items_int h3;have hlen:ns.length<=n:=by
  unfold OpenLaw.pre at hc;have h4:(WTm.not (.lt (.lit (.int (n:Int))) (.len (.arg 0)))).holds [] { args:=[.list (ns.map .int)] }=true:=by
   have h4:=(holds_andW hc).1;rw[hn] at h4;exact h4
  have h5:=condW_of h4 (w_not (w_lt w_lit (w_len_list (w_arg rfl))));rw[List.length_map] at h5;refine Nat.le_of_not_lt fun q=>?_
  have q':(n:Int) < ((ns.length:Nat):Int):=by omega
  first
   | (rw[decide_eq_true q'] at h5;exact absurd h5 (by decide))
   | (simp at h5;omega)
 cases hwl with
 | cons w1 w2=>
  cases w2
  cases w1 with
  | list ho hall=>exact ⟨_,_,ns,rfl,rfl,ho,zeQ ns _ hall,hlen⟩
theorem ziS (l:OpenLaw) (args:List WData):l.row.toRowW.claim.post args (.bool true) args=true:=
 postW_of (r:=l.row.toRowW) (X:=(true==true))
  (show WShape.has [] (.bool true) .bool=true by first | rfl | decide | simp[WShape.has,WShape.arms,WShape.armsAll])
  (show (WTm.eq .res (.lit (.bool true))).value [] { args:=args,res:=some (.bool true),after:=args }=some (.bool (true==true)) from w_eq_bool (w_res rfl) w_lit) rfl
theorem zg6 {l:OpenLaw} {n:Nat} {q:Program} {loose:List Str} {XP:(Str->Option Value)->Heap->Prop} {YP:World->Heap->Prop} {d:DefRec}
  (hn:l.most=some n) (hdf:d.params.defaults=[])
  (call:∀(w:World) (s₀ s₁:Shared) (mg mb:Str->Option Value) (fa:Addr) (o:Obj) (pm cd doc:Value) (a:Addr) (vs:List Value) (ns:List Int),
   Ground q loose [] XP w s₀ mg mb s₁.heap->YP w s₁.heap->
   s₁.heap.get? fa=some o->o.data=.func (docDef d.name d.params d.body d.scope pm cd doc)->s₁.heap.CodeRec cd d.name->mg d.name=some (.ref fa)->
   s₁.heap.get? a=some { cls:=.type "list",data:=.seq vs.toArray }->IntsAre vs ns->ns.length<=n->s₁.gens=#[]->
   codeAny (model l.prog w) callerA (.call (.ref fa) ⟨[.ref a],[]⟩) (fun r s'=>r=.ok (.ret (.bool true))/\OldK s₁.heap s'.heap/\s'.os=s₁.os/\AllBare s'.gens) s₁) :
  WalkO q loose XP YP l.row.toRowW d [] (fun f vs=>PySem.call f vs):=by
 intro w s₀ s₁ mg mb G Y fa o pm cd doc dV kV ho hd hcd hD hmg hg args vals as hpre hlay hrd hwl hlo;obtain rfl:dV=.none:=Dflts.none hD hdf;obtain rfl:kV=.none:=Dflts.noKw hD;obtain ⟨a,vs,ns,rfl,rfl,hobj,hints,hlen⟩:=zjD hn hpre hwl;refine enter_call (codeAny_mono (call w s₀ s₁ mg mb fa o pm cd doc a vs ns G Y ho (fd_plain hd) hcd hmg hobj hints hlen hg) fun r s' hq=>?_);obtain ⟨rfl,h2,h3,h4⟩:=hq;exact ⟨.inl ⟨.bool true,.bool true,[],rfl,fun _=>rfl,.bool true,ziS l _,fun _=>⟨List.Pairwise.nil,fun _ hm=>(nomatch hm)⟩⟩,h2,h3,h4⟩
section
variable {prog:Program} {w:World} {A:Around} {E:Value->Shared->Prop} {s:Shared} {K:Frag}
end
end Att
namespace L2
open PySem PySem.Spec PyProof.Rows
theorem zgA:∀{vs:List Value} {ns:List Int},IntsAre vs ns->Vals (ns.map V.int) vs
 | _,_,.nil=>.nil
 | _,_,.cons n t h=>.cons ⟨t,rfl⟩ (zgA h)
def Only (H:Hp):Prop:=∀b,H b=none\/∃o xs,H b=some (.frz o (.lst xs))
theorem zj0 {P:Program} {w:World} {K:PySem.W.Frag} {mg mb:Str->Option Value} {CX:CXT} {k:Nat} {fa a:Addr} {fd:FuncData} {x:Str} {sp:Sp} {s₁:Shared} {vs:List Value} {ns:List Int}
  (KX:K.In s₁.heap) (hns:s₁.heap.Ns mainGlobals mg) (hb:s₁.heap.Ns builtinsNs mb) (hbb:∀x:Str,x≠"__name__"->mb x=bootBuiltins x) (hlim:s₁.heap.NoLimit) (hg:s₁.gens=#[])
  (ha:s₁.heap.get? a=some { cls:=.type "list",data:=.seq vs.toArray }) (hi:IntsAre vs ns) (hl:ns.length<=sizeLine) (hr:Room k callerA)
  (F:∀base:Heap,K.In base->base.Ns mainGlobals mg->FnOk P w K mg base CX k fa fd [x] sp) (hbind:∀(s:Shared) (u:Value),BindsTo s fd ⟨[u],[]⟩ [(x,u)])
  (hsp:∀H:Hp,Only H->SqL K H a (ns.map V.int)->sp [.ref a] H (fun v _=>v=.bl true) fun _ _ _=>False)
  (hCX:∀H e s',CX [] H s₁ (fun _ _ _=>False) e s'->False) :
  codeAny (model P w) callerA (.call (.ref fa) ⟨[.ref a],[]⟩) (fun r s'=>r=.ok (.ret (.bool true))/\OldK s₁.heap s'.heap/\s'.os=s₁.os/\AllBare s'.gens) s₁:=by
 have rv:=zgA hi;have lenV:=hi.length
 -- from an abstract heap in which nothing but the script may be tracked
 have core:∀H:Hp,Only H->SqL K H a (ns.map V.int)->HOk P w H s₁.heap->(∀b,H b≠none->b=a)->(H a≠none->K.lookup a=none)->
   codeAny (model P w) callerA (.call (.ref fa) ⟨[.ref a],[]⟩) (fun r s'=>r=.ok (.ret (.bool true))/\OldK s₁.heap s'.heap/\s'.os=s₁.os/\AllBare s'.gens) s₁:=by
  intro H hO hS hok hA hK;have base_of:∀{b:Addr} {o:Obj},s₁.heap.get? b=some o->H b=none->(hidT s₁.heap H).get? b=some o:=fun e n=>zjS e n
  have noA:∀{b:Addr} {o:Obj} {es:Array DictEntry} {ep:Nat},s₁.heap.get? b=some o->o.data=.dict es ep->H b=none:=fun {b o es ep} e d=>by
   cases q:H b with
   | none=>rfl
   | some u=>
    have e':b=a:=hA b (by rw[q];simp);subst e';rw[ha] at e;cases e;have d':Data.seq vs.toArray _=Data.dict es ep:=d
    cases d'
  have nsK:∀{b:Addr} {m:Str->Option Value},s₁.heap.Ns b m->(hidT s₁.heap H).Ns b m:=fun {b m} ⟨o,es,ep,e,d,r⟩=>⟨o,es,ep,base_of e (noA e d),d,r⟩
  have hKb:K.In (hidT s₁.heap H):=fun b o e=>base_of (KX b o e) (by
   cases q:H b with
   | none=>rfl
   | some u=>
    have e':b=a:=hA b (by rw[q];simp);subst e';rw[hK (by rw[q];simp)] at e;cases e)
  have hM:Mod K mg (hidT s₁.heap H):=⟨hKb,nsK hns,⟨mb,nsK hb,hbb⟩,let ⟨mc,h1,h2⟩:=hlim;⟨mc,nsK h1,h2⟩⟩;have e0:Env0 P w K mg (hidT s₁.heap H) callerA [] s₁ H:=⟨rfl,hM,fun b o e=>zl6 e,Nat.le_of_eq (ziD _ _),trivial,fun b hb=>absurd (show b∈([]:List Addr) from hb) (by simp),hok,.of_eq hg⟩;refine codeAny_mono ((F _ hKb (nsK hns)).run callerA [] s₁ H ⟨[.ref a],[]⟩ [.ref a] [.ref a] _ _ hr e0 (hbind s₁ (.ref a)) (.cons rfl .nil) (hsp H hO hS)) fun r s' h=>?_
  cases r with
  | error e=>exact (hCX H e s' h).elim
  | ok fl=>
   cases fl with
   | next=>exact False.elim h
   | brk=>exact False.elim h
   | cont=>exact False.elim h
   | ret u=>
    obtain ⟨v,H',os,bare,un,hok',r',q⟩:=h;have q':v=.bl true:=q;subst q';obtain rfl:u=Value.bool true:=r';refine ⟨rfl,OldK.of_keep fun b o e=>?_,os,bare⟩
    cases q:H b with
    | none=>exact un.keep b o e q (by intro z;exact absurd (show b∈([]:List Addr) from z) (by simp)) (by simp)
    | some u=>
     rcases hO b with z | ⟨ob,xs,z⟩
     .rw[q] at z;cases z
     .have z2:=un.frzs b ob _ z;obtain ⟨e1,_⟩:=hok b _ z;obtain ⟨e2,_⟩:=hok' b _ z2;rw[e] at e1;cases e1;exact e2
 cases hk:K.lookup a with
 | some o=>
  -- the script is one of the module's own objects
  have e:=KX a o hk;rw[ha] at e;cases e;refine core (fun _=>none) (fun _=>.inl rfl) (.inr ⟨_,vs.toArray,_,hk,rfl,rfl,rfl,by rw[List.size_toArray,lenV];exact hl,by simpa using rv⟩) (fun b u z=>by have z':(none:Option HO)=some u:=z;cases z') (fun b z=>absurd rfl z) fun z=>absurd rfl z
 | none=>
  refine core (fun b=>if b=a then some (.frz { cls:=.type "list",data:=.seq vs.toArray } (.lst (ns.map V.int))) else none) (fun b=>?_) (.inl (.inr ⟨{ cls:=.type "list",data:=.seq vs.toArray },if_pos rfl⟩)) (fun b u z=>?_) (fun b z=>?_) fun _=>hk
  .by_cases hb:b=a
   .exact .inr ⟨_,_,if_pos hb⟩
   .exact .inl (if_neg hb)
  .by_cases hb:b=a
   .have z':=(if_pos hb).symm.trans z
    cases z'
    subst hb;exact ⟨ha,by rw[List.length_map];exact hl,vs,_,rv,ha⟩
   .have z':=(if_neg hb).symm.trans z
    cases z'
  .by_cases hb:b=a
   .exact hb
   .exact absurd (if_neg hb) z
def zdh (s:Stmt):Arguments:=match s with
 | .FunctionDef _ a _ _ _ _ _ _ _ _=>a
 | _=>{ posonlyargs:=[],args:=[],vararg:=none,kwonlyargs:=[],kw_defaults:=[],kwarg:=none,defaults:=[] }
def zb3 (s:Stmt):List Stmt:=match s with
 | .FunctionDef _ _ b _ _ _ _ _ _ _=>b
 | _=>[]
def zak (s:Stmt):Scope:=match s with
 | .FunctionDef _ _ _ _ _ _ sc _ _ _=>sc
 | _=>{ kind:=.function,names:=[],isGenerator:=false,isCoroutine:=false }
abbrev CX0:CXT:=fun _ _ _ _ _ _=>False
structure Fun (K:PySem.W.Frag) (x qual:Str) (st:Stmt) (f:Addr) (fd:FuncData):Prop where
 ex:∃(oc:Value) (od:Option Addr) (kV doc pm:Value) (an:Option Addr) (cdv ct:Value) (osl:Array (Option Value)),
  fd=PySem.W.fnOf x qual (zdh st) (zb3 st) (zak st) .none kV doc pm an cdv ct/\K.lookup f=some ⟨oc,od,.func fd,osl⟩/\PySem.W.codeIn K cdv qual=true
 kp:PySem.W.keepIn K (.ref f)=true
section
variable {P:Program} {w:World} {K:PySem.W.Frag} {mg:Str->Option Value} {base:Heap}
theorem Fun.ok {x qual:Str} {st:Stmt} {f:Addr} {fd:FuncData} {N ps:List Str} {k:Nat} {sp:Sp} (F:Fun K x qual st f fd) (S:zaw N ps (zak st)) (len:∀vs H Q E,sp vs H Q E->vs.length=ps.length)
  (hbody:∀(cdv:Value) (A:Around) (outer:List Env) (s:Shared) (H:Hp) (vs:List V) (Q:VK) (E:XK),Room k (A.deeper (envOfC qual (zak st) s.heap.objs.size f cdv))->sp vs H Q E->
   ∃t,PSs (cxOf CX0 P w K mg base N qual (zak st) f cdv A outer s H E).nox (zb3 st) t/\t { nx:=fun _ H'=>Q .non H',rt:=Q } (start N vs) H):FnOk P w K mg base CX0 (k+1) f fd ps sp:=by
 obtain ⟨oc,od,kV,doc,pm,an,cdv,ct,osl,rfl,lk,hcd⟩:=F.ex;refine zm9 lk hcd S len fun A outer s H vs Q E hr hsp=>?_
 obtain ⟨t,h,q⟩:=hbody cdv A outer s H vs Q E hr hsp;exact ⟨t,h.nox,q⟩
theorem Fun.binds {x qual:Str} {st:Stmt} {f:Addr} {fd:FuncData} {ps:List Str} (F:Fun K x qual st f fd)
  (h:∀(kV doc pm:Value) (an:Option Addr) (cdv ct:Value) (us:List Value),us.length=ps.length->bindArgs (PySem.W.fnOf x qual (zdh st) (zb3 st) (zak st) .none kV doc pm an cdv ct) ⟨us,[]⟩=pure (ps.zip us)):Binds K fd ps []:=by
 obtain ⟨oc,od,kV,doc,pm,an,cdv,ct,osl,rfl,lk,hcd⟩:=F.ex;exact .all (h kV doc pm an cdv ct)
end
section
variable {X:Cx}
theorem pv (i:Nat) {x:Str} {pos:Pos} (hN:X.N[i]? = some x:=by rfl) (hv:Vis X.env.scope x:=by first | exact Or.inl rfl | exact Or.inr (Or.inl rfl) | exact Or.inr (Or.inr rfl)) (hd:(x==("__debug__":Str))=false:=by decide)
  (hcd:(x==("__classdict__":Str))=false:=by decide):PE X (.Name x pos) (tVar i):=zmq hN hv hd hcd
end
def Same (H H':Hp):Prop:=∀b o,H b=some o->H' b=some o
theorem Same.refl (H:Hp):Same H H:=fun _ _ h=>h
end L2
set_option maxHeartbeats 4000000
namespace L2
open PySem PySem.Spec PyProof.Rows
def zdr (cells:List (Str×Addr)):List (Str×NameKind)->List (Str×Addr)->List (Str×Addr)
 | [],cs=>cs
 | (n,k)::r,cs=>zdr cells r (if (k==NameKind.free)=true then (match cells.lookup n with | some a=>(n,a)::cs | none=>cs) else cs)
theorem zgp (env:Env):∀(l:List (Str×NameKind)) (cs:List (Str×Addr)),(∀y∈l,y.2=.free->∃c,env.cells.lookup y.1=some c)->
  (forIn l cs fun x r=>match x with | (name,kind)=>if (kind==NameKind.free)=true then do let a <-cellOf env name;pure (ForInStep.yield ((name,a)::r)) else pure (ForInStep.yield r))=(pure (zdr env.cells l cs):Sem (List (Str×Addr)))
 | [],cs,_=>rfl
 | (n,k)::l,cs,h=>by
  have ih:=fun cs=>zgp env l cs fun y hy=>h y (List.mem_cons_of_mem _ hy)
  rw[List.forIn_cons];unfold zdr
  by_cases hk:k=.free
  .subst hk;obtain ⟨c,hc⟩:=h (n,.free) List.mem_cons_self rfl;have e:cellOf env n=pure c:=by unfold cellOf;rw[hc]
   simp only[beq_self_eq_true,if_true,e,hc,pure_bind];exact ih _
  .have hb:(k==NameKind.free)=false:=by simpa using hk
   simp only[hb,Bool.false_eq_true,if_false,pure_bind];exact ih _
theorem zkO {scope:Scope} {env:Env} (h:∀y∈scope.names,y.2=.free->∃c,env.cells.lookup y.1=some c):closureFor scope env=pure (zdr env.cells scope.names []):=by
 unfold closureFor;simp only[bind_pure];exact zgp env scope.names [] h
theorem zgJ (cells:List (Str×Addr)):∀(l:List (Str×NameKind)) (cs:List (Str×Addr)),(∀x c,cs.lookup x=some c->cells.lookup x=some c)->∀x c,(zdr cells l cs).lookup x=some c->cells.lookup x=some c
 | [],cs,h,x,c,e=>h x c e
 | (n,k)::l,cs,h,x,c,e=>by
  unfold zdr at e;refine zgJ cells l _ ?_ x c e;intro y d q;split at q
  .cases hc:cells.lookup n with
   | none=>rw[hc] at q;exact h y d q
   | some a=>
    rw[hc] at q;simp only[List.lookup_cons] at q
    cases hy:y==n with
    | true=>
     rw[hy] at q
     have:y=n:=by simpa using hy
     subst this;rw[hc];exact q
    | false=>rw[hy] at q;exact h y d q
  .exact h y d q
theorem zhl (cells:List (Str×Addr)):∀(l:List (Str×NameKind)) (cs:List (Str×Addr)) (x:Str),(∃c,cs.lookup x=some c)->∃c,(zdr cells l cs).lookup x=some c
 | [],cs,x,h=>h
 | (n,k)::l,cs,x,h=>by
  unfold zdr;refine zhl cells l _ x ?_;split
  .split
   .simp only[List.lookup_cons];split
    .exact ⟨_,rfl⟩
    .exact h
   .exact h
  .exact h
theorem zg7 (cells:List (Str×Addr)):∀(l:List (Str×NameKind)) (cs:List (Str×Addr)) (x:Str),(x,NameKind.free)∈l->(∃c,cells.lookup x=some c)->∃c,(zdr cells l cs).lookup x=some c
 | [],cs,x,h,_=>by simp at h
 | (n,k)::l,cs,x,h,hc=>by
  unfold zdr;rcases List.mem_cons.mp h with e | h
  .cases e;obtain ⟨c,hc⟩:=hc;simp only[beq_self_eq_true,if_true,hc];exact zhl cells l _ _ ⟨c,by simp[List.lookup_cons]⟩
  .exact zg7 cells l _ x h hc
theorem zhk:∀(names:List (Str×NameKind)) (n:Nat) (acc:List (Str×Addr)) (x:Str) (c:Addr),(cellsFrom n names acc).lookup x=some c->acc.lookup x=some c\/n<=c
 | [],_,_,_,_,h=>.inl h
 | (y,k)::r,n,acc,x,c,h=>by
  unfold cellsFrom at h;split at h
  .rcases zhk r _ _ x c h with q | q
   .rw[List.lookup_cons] at q;split at q
    .cases q;exact .inr (Nat.le_refl _)
    .exact .inl q
   .exact .inr (Nat.le_of_succ_le q)
  .exact zhk r _ _ x c h
theorem zle {m:Nat}:∀(names:List (Str×NameKind)) (n:Nat) (acc:List (Str×Addr)) (x:Str) (c:Addr),m<=n->((∀d,acc.lookup x=some d->m<=d)\/names.lookup x=some .cell)->(cellsFrom n names acc).lookup x=some c->m<=c
 | [],_,_,_,_,_,q,h=>q.elim (fun q=>q _ h) fun q=>by cases q
 | (y,k)::r,n,acc,x,c,hm,q,h=>by
  unfold cellsFrom at h;rw[List.lookup_cons] at q;split at h
  .refine zle r _ _ x c (Nat.le_succ_of_le hm) ?_ h
   cases e:x==y with
   | true=>exact .inl fun d hd=>by rw[List.lookup_cons,e] at hd;cases hd;exact hm
   | false=>rw[e] at q;exact q.imp (fun q d hd=>by rw[List.lookup_cons,e] at hd;exact q d hd) id
  .rename_i hk;refine zle r _ _ x c hm (q.imp id fun q=>?_) h
   cases e:x==y with
   | true=>rw[e] at q;cases q;exact absurd rfl hk
   | false=>rw[e] at q;exact q
theorem ziZ:∀(names:List (Str×NameKind)) (n:Nat) (acc:List (Str×Addr)),(∀x y c,acc.lookup x=some c->acc.lookup y=some c->x=y)->(∀x c,acc.lookup x=some c->c < n)->∀x y c,(cellsFrom n names acc).lookup x=some c->(cellsFrom n names acc).lookup y=some c->x=y
 | [],_,_,hi,_,x,y,c,h,h'=>hi x y c h h'
 | (z,k)::r,n,acc,hi,hl,x,y,c,h,h'=>by
  unfold cellsFrom at h h';split at h
  .rename_i hk;rw[if_pos hk] at h';refine ziZ r _ _ (fun x y c=>?_) (fun x c e=>?_) x y c h h'
   .rw[List.lookup_cons,List.lookup_cons]
    cases ex:x==z<;>cases ey:y==z
    .exact hi x y c
    .intro e e';cases e';exact absurd (hl _ _ e) (Nat.lt_irrefl _)
    .intro e e';cases e;exact absurd (hl _ _ e') (Nat.lt_irrefl _)
    .exact fun _ _=>(beq_iff_eq.mp ex).trans (beq_iff_eq.mp ey).symm
   .rw[List.lookup_cons] at e;split at e
    .cases e;exact Nat.lt_succ_self _
    .exact Nat.lt_succ_of_lt (hl _ _ e)
  .rename_i hk;rw[if_neg hk] at h';exact ziZ r _ _ hi hl x y c h h'
theorem zkD:∀(names:List (Str×NameKind)) (n:Nat) (acc:List (Str×Addr)) (x:Str),(x,NameKind.cell)∉names->(cellsFrom n names acc).lookup x=acc.lookup x
 | [],_,_,_,_=>rfl
 | (y,k)::r,n,acc,x,h=>by
  unfold cellsFrom;have hr:=fun acc n=>zkD r n acc x fun z=>h (List.mem_cons_of_mem _ z)
  split
  .rename_i hk
   have:k=.cell:=by simpa using hk
   subst this;rw[hr,List.lookup_cons]
   cases e:x==y with
   | true=>exact absurd (by rw[beq_iff_eq.mp e];exact List.mem_cons_self) h
   | false=>rfl
  .exact hr _ _
theorem zlP:∀(names:List (Str×NameKind)) (h:Heap) (acc:List (Str×Addr)) (x:Str) (c:Addr),(cellsFrom h.objs.size names acc).lookup x=some c->acc.lookup x=some c\/(pushCells h names).IsCell c none
 | [],_,_,_,_,e=>.inl e
 | (y,k)::r,h,acc,x,c,e=>by
  unfold cellsFrom at e;unfold pushCells;split at e
  .rename_i hk;rw[if_pos hk];rcases zlP r (h.push { cls:=.type "cell",data:=.cell none }) ((y,h.objs.size)::acc) x c (by rw[Heap.size_push];exact e) with q | q
   .rw[List.lookup_cons] at q;split at q
    .cases q;exact .inr ⟨_,pushCells_keeps _ _ _ _ (Heap.get?_push_size _ rfl),rfl⟩
    .exact .inl q
   .exact .inr q
  .rename_i hk;rw[if_neg hk];exact zlP r _ _ x c e
theorem zlp {M:Model} {A:Around} {E:Value->Shared->Prop} {s:Shared} {scope:Scope} {globals:Addr} {closure:List (Str×Addr)} {qual:Str} {func:Option Addr} {code:Value} {outer:Env} {builtins:Addr} {Q:Env->Shared->Prop}
  (hQ:Q (newEnv scope s.heap.objs.size globals (cellsFrom (s.heap.objs.size+1) scope.names closure) qual func code (some outer) builtins) { s with heap:=pushCells (s.heap.push { cls:=.type "dict",data:=.dict #[] }) scope.names }) :
  wpAny M A (newFunctionEnv scope globals closure [] qual func code (some outer) builtins) Q E s:=by
 simp only[newFunctionEnv,Option.isSome_some,if_true];refine wpAny_bind (wpAny_alloc ?_);refine wpAny_bind (wpAny_layCells _ (fun name kind cells=>by cases hkc:kind==NameKind.cell<;>simp[hkc]) _ _ _ _ ?_);rw[show ({ s with heap:=s.heap.push { cls:=.type "dict",data:=.dict #[] } }:Shared).heap.objs.size=s.heap.objs.size+1 from Heap.size_push ..];refine wpAny_bind ?_;rw[List.forIn_nil];exact wpAny_pure (wpAny_pure hQ)
def blk (X:Cx) (N':List Str) (scope:Scope) (s:Shared) (H:Hp) (ex:List Addr):Cx:=
 { X with N:=N',s₀:=s,H₀:=H,env:=compEnvC scope (cellsFrom (s.heap.objs.size+1) scope.names (zdr X.env.cells scope.names [])) s.heap.objs.size X.env,outer:=X.stack,stack:=X.stack,ex:=ex,fn:=fun x=>decide (scope.names.lookup x=some .cell),pn:=[],xe:=fun _ _=>False }
def pick (σ:St) (js:List (Option Nat)):St:=js.map fun j=>match j with | none=>none | some i=>(σ[i]?).getD none
def zjL (N:List Str) (sc:Scope) (N':List Str) (scope:Scope) (js:List (Option Nat)):Bool:=
 (N'.length==js.length)&&(N'.zip js).all fun p=>match p.2 with
  | none=>true
  | some i=>decide (N[i]? = some p.1)&&(decide (sc.names.lookup p.1=some .cell) || decide (sc.names.lookup p.1=some .free))&&decide (scope.names.lookup p.1=some .free)
def zfm (sc scope:Scope):Bool:=scope.names.all fun y=>((y.2 != .cell) || decide (scope.names.lookup y.1=some .cell))&&((y.2 != .free) || (decide (sc.names.lookup y.1=some .cell) || decide (sc.names.lookup y.1=some .free)))&&((y.2 != .local) || decide (scope.names.lookup y.1=some .local))
theorem zdC {env:Env} {x:Str} {k:NameKind}:∀{names:List (Str×NameKind)},
  (names.map fun (n,k)=>if (k==NameKind.free&&env.scope.kind==.function&&env.kindOf n==some .cell) then (n,NameKind.cell) else (n,k)).lookup x=some k->
  names.lookup x=some k\/(names.lookup x=some .free/\k=.cell)
 | [],h=>by simp at h
 | (n,j)::r,h=>by
  have ih:=@zdC env x k r;simp only[List.map_cons] at h
  by_cases hc:(j==NameKind.free&&env.scope.kind==.function&&env.kindOf n==some .cell)=true
  .rw[if_pos hc] at h;have hj:j=.free:=by
    have:=(Bool.and_eq_true _ _).mp ((Bool.and_eq_true _ _).mp hc).1
    simpa using this.1
   subst hj
   cases hx:x==n with
   | true=>
    simp only[List.lookup_cons,hx] at h ⊢;cases h;exact .inr (by simp)
   | false=>
    simp only[List.lookup_cons,hx] at h ⊢;exact ih h
  .rw[if_neg hc] at h
   cases hx:x==n with
   | true=>simp only[List.lookup_cons,hx] at h ⊢;exact .inl h
   | false=>simp only[List.lookup_cons,hx] at h ⊢;exact ih h
theorem zeC {env:Env} {x:Str}:∀{names:List (Str×NameKind)},names.lookup x=some .free->
  (names.map fun (n,k)=>if (k==NameKind.free&&env.scope.kind==.function&&env.kindOf n==some .cell) then (n,NameKind.cell) else (n,k)).lookup x=some .cell\/
  (names.map fun (n,k)=>if (k==NameKind.free&&env.scope.kind==.function&&env.kindOf n==some .cell) then (n,NameKind.cell) else (n,k)).lookup x=some .free
 | [],h=>by simp at h
 | (n,j)::r,h=>by
  have ih:=@zeC env x r;simp only[List.map_cons]
  cases hx:x==n with
  | true=>
   simp only[List.lookup_cons,hx] at h;cases h
   by_cases hc:(NameKind.free==NameKind.free&&env.scope.kind==.function&&env.kindOf n==some .cell)=true
   .rw[if_pos hc];exact .inl (by simp[List.lookup_cons,hx])
   .rw[if_neg hc];exact .inr (by simp[List.lookup_cons,hx])
  | false=>
   simp only[List.lookup_cons,hx] at h
   by_cases hc:(j==NameKind.free&&env.scope.kind==.function&&env.kindOf n==some .cell)=true
   .rw[if_pos hc];simp only[List.lookup_cons,hx];exact ih h
   .rw[if_neg hc];simp only[List.lookup_cons,hx];exact ih h
section
variable {X:Cx} {pins:List (Addr×Obj)} {σ:St} {H H':Hp} {s:Shared}
theorem Inv.adopt {l : Addr} {o : HO} (I : Inv X pins σ H s) (hn : H l = none) (hL : l ≠ X.env.locals) (h1 : l ∈ X.ex \/ X.s₀.heap.objs.size <= l)
    (h2 : ∀ x c, X.env.cells.lookup x = some c -> c ≠ l) (h3 : ∀ p ∈ X.pn ++ pins, p.1 ≠ l) (new : ObjOk X.prog X.w (upd H l o) s.heap l o) : Inv X pins σ (upd H l o) s := by
  have nl : ∀ b u, H b = some u -> b ≠ l := fun b u e z => by rw [z, hn] at e; cases e
  have := I.step (H' := upd H l o) (h' := s.heap) (g' := s.gens) (t' := s.toks) (d' := s.drawn) (ch := [l])
    (fun b hb => by have e : b = l := by simpa using hb
                    subst e; exact ⟨h1, hL, h2, h3⟩)
    (fun b o _ _ _ e _ => e) (fun b o _ _ _ e _ => ⟨o.slots, e⟩) (fun b o hc e n => by rw [zaB (fun z => hc (by simp [z]))]; exact n) (fun b o _ e => ⟨o, e⟩)
    (fun b xs e => by rw [zaB (nl b _ e)]; exact e) (fun b o u e => by rw [zaB (nl b _ e)]; exact e) (fun b ps e => ⟨#[], by rw [zaB (nl b _ e), e]; simp⟩) (fun m hm => hm)
    (fun b u e => by
      by_cases hb : b = l
      . subst hb; rw [zbu] at e; cases e; exact new
      . rw [zaB hb] at e
        exact (I.hok b u e).stay (fun c v _ q => q) (fun c q => by rw [zaB (nl c _ q)]; exact q) fun c xs q => by rw [zaB (nl c _ q)]; exact q) I.bare
  exact this
end
section
variable {prog:Program} {w:World} {A:Around} {R:Result->Shared->Prop} {s:Shared}
theorem zf1 {elt target iter:Expr} {ifs:List Expr} {scope:Scope} {pos:Pos} {it acc:Value} {env:Env} (I:Nat->Shared->Prop)
  (turn:∀n s,I n s->wpAny (model prog w) A (pyNext it) (fun r s₁=>match r with
   | none=>R (.ok .next) s₁
   | some v=>wpAny (model prog w) A (letOwnedTupleGo target it v) (fun _ s₁'=>wpAny (model prog w) A (assign target env v) (fun _ s₂=>
     wpAny (model prog w) A (forIn ifs true fun c r=>if r=true then do let ok <-isTrue c env (eval c env);pure (ForInStep.yield ok) else pure (ForInStep.yield r)) (fun ok s₃=>
      if ok=true then wpAny (model prog w) A (eval elt env) (fun x s₄=>
       wpAny (model prog w) A (call (.builtin "list.append") [acc,x]) (fun _ s₅=>∃m,m < n/\I m s₅) (fun _ _=>False) s₄) (fun _ _=>False) s₃
      else ∃m,m < n/\I m s₃) (fun _ _=>False) s₂) (fun _ _=>False) s₁') (fun _ _=>False) s₁) (fun _ _=>False) s)
  (n:Nat) (h:I n s) :
  codeAny (model prog w) A (.compLoop (.ListComp elt [⟨target,iter,ifs,0⟩] scope pos) 0 it acc env) R s:=by
 refine codeAny_loop rfl I (fun n s hI=>?_) n h
 show wpAny _ A ((compTurn (.ListComp elt [⟨target,iter,ifs,0⟩] scope pos) 0 it acc env).onRaise (fun x=>do noteFrame x env;theTreesLotGoes x)) _ _ s
 refine wpAny_noted ?_;rw[compTurn_list];refine wpAny_bind (wpAny_standAt (wpAny_bind (wpAny_mono (turn n s hI) (fun r s₁ h₁=>?_) fun _ _ h'=>h'.elim)))
 cases r with
 | none=>exact wpAny_pure h₁
 | some v=>
  refine wpAny_bind (wpAny_mono h₁ (fun _ s₁' h₁'=>?_) fun _ _ h'=>h'.elim);refine wpAny_bind (wpAny_mono h₁' (fun _ s₂ h₂=>wpAny_bind (wpAny_mono h₂ (fun ok s₃ h₃=>?_) fun _ _ h'=>h'.elim)) fun _ _ h'=>h'.elim)
  cases ok with
  | false=>exact wpAny_pure ⟨rfl,h₃⟩
  | true=>
   exact wpAny_bind (wpAny_bind (wpAny_mono h₃ (fun x s₄ h₄=>wpAny_bind (wpAny_mono h₄ (fun _ s₅ h₅=>wpAny_pure (wpAny_pure ⟨rfl,h₅⟩)) fun _ _ h'=>h'.elim)) fun _ _ h'=>h'.elim))
end
def PF (X:Cx) (ifs:List Expr) (t:TT):Prop:=
 ∀(pins:List (Addr×Obj)) (s:Shared) (σ:St) (H:Hp) (Q:Bool->Hp->Prop),Inv X pins σ H s->t σ H Q->
  wpAny (model X.prog X.w) X.A (forIn ifs true fun c r=>if r=true then do let ok <-isTrue c X.env (eval c X.env);pure (ForInStep.yield ok) else pure (ForInStep.yield r)) (TP X pins σ Q) X.xe s
def tYes:TT:=fun _ H Q=>Q true H
theorem znR {X:Cx}:PF X [] tYes:=fun _ _ _ H _ I h=>wpAny_tests_nil ⟨H,I,h⟩
theorem zmk {X:Cx} {c:Expr} {t:TT} (hc:PT X c t):PF X [c] t:=fun pins s σ H Q I h=>wpAny_tests_one (hc pins s σ H Q I h)
def lcGo (J:It) (js:List (Option Nat)) (g:TG) (tt:TT) (te:TE) (σ:St) (H1:Hp) (Q:VK):Prop:=
 ∃W:Nat->Nat->List V->Hp->Prop,(∃m,W 0 m [] H1)/\∀i m acc H,W i m acc H->
  (J.stop i H/\acc.length<=sizeLine/\∀l,H l=none->Q (.ref l) (upd H l (.lst acc)))\/
  (J.go i H/\acc.length < sizeLine/\∀x H',J.yld i H x H'->g x (pick σ js) H' fun σ2 H2=>tt σ2 H2 fun b H3=>
   if b=true then te σ2 H3 fun v H4=>∃m',m' < m/\W (i+1) m' (acc++[v]) H4 else ∃m',m' < m/\W (i+1) m' acc H3)
def tLC (wi:TI) (js:List (Option Nat)) (g:TG) (tt:TT) (te:TE):TE:=fun σ H Q=>wi σ H fun J H1=>lcGo J js g tt te σ H1 Q
section
variable {X:Cx} {elt tgt iter:Expr} {ifs:List Expr} {scope:Scope} {pos:Pos} {N':List Str} {js:List (Option Nat)} {wi:TI} {g:TG} {tt:TT} {te:TE}
theorem zmM {pins:List (Addr×Obj)} {σ:St} {H:Hp} {s:Shared} {ex:List Addr} (I:Inv X pins σ H s) (hk:scope.kind=.function) (hf:zfm X.env.scope scope=true)
  (hex:∀b∈ex,(b∈X.ex\/X.s₀.heap.objs.size<=b)/\b≠X.env.locals/\b∉X.fs/\(∀x c,X.env.cells.lookup x=some c->c≠b)/\b < s.heap.objs.size):(blk X N' scope s H ex).Ok:=by
 have hf':∀y∈scope.names,(y.2=.cell->scope.names.lookup y.1=some .cell)/\(y.2=.free->X.env.scope.names.lookup y.1=some .cell\/X.env.scope.names.lookup y.1=some .free):=fun y hy=>by
  have:=List.all_eq_true.mp hf y hy
  simp only[Bool.and_eq_true,Bool.or_eq_true,bne_iff_ne,ne_eq,decide_eq_true_eq] at this;exact ⟨fun e=>this.1.1.resolve_left fun z=>z e,fun e=>this.1.2.resolve_left fun z=>z e⟩
 have sub:=zgJ X.env.cells scope.names [] (by simp);have cl:∀x c,(zdr X.env.cells scope.names []).lookup x=some c->c < s.heap.objs.size:=fun x c e=>by
  obtain ⟨v,q⟩:=I.cell x c (sub x c e);exact q.lt
 refine ⟨I.ok.mod,hk,I.ok.glob,I.ok.blt,Nat.le_refl _,ziZ _ _ _ (fun x y c h1 h2=>?_) (fun x c e=>Nat.lt_succ_of_lt (cl x c e)),fun x hx=>?_,fun x c h e=>?_,I.ok.hd,I.ok.frames,.inl rfl,fun b hb=>?_,I.bs,Nat.le_trans I.ok.bsz I.sz,fun b o e hb=>?_,fun b hb hb'=>?_,I.stack,I.stkFree⟩
 .exact I.ok.inj x y c (sub x c h1) (sub y c h2)
 .have hfree:scope.names.lookup x=some .cell\/scope.names.lookup x=some .free:=by
   have hx:((scope.names.map fun (n,k)=>if (k==NameKind.free&&X.env.scope.kind==.function&&X.env.kindOf n==some .cell) then (n,NameKind.cell) else (n,k)).lookup x=some .cell)\/
    ((scope.names.map fun (n,k)=>if (k==NameKind.free&&X.env.scope.kind==.function&&X.env.kindOf n==some .cell) then (n,NameKind.cell) else (n,k)).lookup x=some .free):=hx
   rcases hx with hx | hx
   .exact (zdC hx).imp id fun z=>z.1
   .exact (zdC hx).elim .inr fun z=>.inr z.1
  refine Option.isSome_iff_exists.mp (PySem.W.cellsFrom_some _ _ _ (hfree.imp id fun hfree=>?_));have hm:=PySem.mem_of_lookup hfree;obtain ⟨c,hc⟩:=I.ok.has x ((hf' _ hm).2 rfl);exact Option.isSome_iff_exists.mpr (zg7 X.env.cells scope.names [] x hm ⟨c,hc⟩)
 .exact zle _ _ _ x c (Nat.le_succ _) (.inr (of_decide_eq_true h)) e
 .obtain ⟨h1,h2,h3,h4,h5⟩:=hex b hb;exact ⟨Nat.ne_of_lt h5,fun x c e=>(zhk _ _ _ x c e).elim (fun e=>h4 x c (sub x c e)) fun e=>Nat.ne_of_gt (Nat.lt_of_lt_of_le (Nat.lt_succ_of_lt h5) e)⟩
 .obtain ⟨h1,h2,h3,h4,h5⟩:=hex b hb;rcases h1 with z | z
  .exact I.ok.noex b o e z
  .exact absurd (Nat.lt_of_lt_of_le (Heap.lt_size e) (Nat.le_trans I.ok.bsz z)) (Nat.lt_irrefl _)
 .obtain ⟨h1,h2,h3,h4,h5⟩:=hex b hb;rcases List.mem_cons.mp (I.stkSub b hb') with e | z
  .exact h2 e
  .exact h3 z
end
section
variable {X:Cx} {elt tgt iter:Expr} {ifs:List Expr} {scope:Scope} {pos:Pos} {N':List Str} {js:List (Option Nat)} {g:TG} {tt:TT} {te:TE}
structure FrC (X:Cx) (pins:List (Addr×Obj)) (H:Hp) (C:Addr):Prop where
 no:H C=none
 ne:C≠X.env.locals
 up:X.s₀.heap.objs.size<=C
 cl:∀x c,X.env.cells.lookup x=some c->c≠C
 pn:∀p∈X.pn++pins,p.1≠C
theorem FrC.turned {pins:List (Addr×Obj)} {σ:St} {H:Hp} {s:Shared} {C:Addr} {h':Heap} (F:FrC X pins H C) (I:Inv X pins σ H s) (hs:Heap.SameBut C s.heap h'):Inv X pins σ H { s with heap:=h' }:=
 I.turned (t':=s.toks) (fun b o hb e=>(hs.2 b hb).trans e) F.no F.ne (.inr F.up) F.cl F.pn
def GK (js:List (Option Nat)) (g:TG):Prop:=∀v σ H Q,g v σ H Q->g v σ H fun σ2 H2=>Q σ2 H2/\∀(i j:Nat),js[i]? = some (some j)->σ2[i]? = σ[i]?
theorem zhj {σ:St}:(pick σ js).length=js.length:=by unfold pick;rw[List.length_map]
theorem zhs {pins:List (Addr×Obj)} {σ:St} {H:Hp} {s:Shared} {it:Addr} {fp:List Addr} {tn:Nat->Heap->Prop} {J:It} {Q:VK} {E:Value->Shared->Prop} {RR:Value->Addr->Result->Shared->Prop}
  (hc:X.calm=true) (hkind:scope.kind=.function) (hf:zfm X.env.scope scope=true) (hcap:zjL X.N X.env.scope N' scope js=true) (hgk:GK js g)
  (I:Inv X pins σ H s) (T:Turn X.prog X.w X.K tgt J fp it tn) (st:tn 0 s.heap) (hfp:∀b∈fp,FpOk X pins H b) (h:lcGo J js g tt te σ H Q)
  (hb:∀(s':Shared) (H':Hp) (ex:List Addr),PG (blk X N' scope s' H' ex) tgt g/\PF (blk X N' scope s' H' ex) ifs tt/\PE (blk X N' scope s' H' ex) elt te)
  (hRR:∀(l C:Addr) (s':Shared) (m':Str->Option Value) (H':Hp) (acc:List V),Inv X pins σ (upd H' l (.lst acc)) s'->s'.heap.Ns C m'->FrC X pins (upd H' l (.lst acc)) C->Q (.ref l) (upd H' l (.lst acc))->RR (.ref l) C (.ok .next) s') :
  wpAny (model X.prog X.w) X.A (newList []) (fun acc s₃=>wpAny (model X.prog X.w) X.A (newFunctionEnv scope X.env.globals (zdr X.env.cells scope.names []) [] X.env.qual none .none (some X.env)) (fun cenv s₄=>
   codeAny (model X.prog X.w) X.A (.compStart (.ListComp elt [⟨tgt,iter,ifs,0⟩] scope pos) 0 (.ref it) acc { cenv with scope:=relabel scope X.env }) (RR acc cenv.locals) s₄) E s₃) E s:=by
 have hz0:(([]:List V)).length<=sizeLine:=Nat.zero_le _;refine wpAny_newObj_type (zlp ?_);dsimp only
 -- the maker,the new list laid untracked
 have I3:Inv X pins σ H { s with heap:=s.heap.push { cls:=.type "list",dict:=none,data:=.seq ([]:List Value).toArray } }:=I.kept (t':=s.toks) fun b o e=>Heap.get?_push_of_some _ e
 have hl3:(s.heap.push { cls:=.type "list",dict:=none,data:=.seq ([]:List Value).toArray }).get? s.heap.objs.size=some { cls:=.type "list",dict:=none,data:=.seq ([]:List Value).toArray }:=Heap.get?_push_size _ rfl;have old3:∀b o,s.heap.get? b=some o->(s.heap.push { cls:=.type "list",dict:=none,data:=.seq ([]:List Value).toArray }).get? b=some o:=fun b o e=>Heap.get?_push_of_some _ e
 have sz3:(s.heap.push { cls:=.type "list",dict:=none,data:=.seq ([]:List Value).toArray }).objs.size=s.heap.objs.size+1:=Heap.size_push ..;generalize (s.heap.push { cls:=.type "list",dict:=none,data:=.seq ([]:List Value).toArray })=H3 at *;generalize hs3:({ s with heap:=H3 }:Shared)=s3 at *;have hh3:s3.heap=H3:=by rw[<-hs3]
 have hl:H s.heap.objs.size=none:=I.hok.fresh (Nat.le_refl _);have fplt:∀b∈fp,b < s.heap.objs.size:=fun b hb=>by obtain ⟨o,e,_⟩:=T.obj _ _ st b hb;exact Heap.lt_size e
 have lL:s.heap.objs.size≠X.env.locals:=Nat.ne_of_gt I.lt;have lfs:s.heap.objs.size∉X.fs:=I.nofs (Nat.le_refl _);have lc:∀x c,X.env.cells.lookup x=some c->c≠s.heap.objs.size:=fun x c e=>by obtain ⟨v,q⟩:=I.cell x c e;exact Nat.ne_of_lt q.lt
 have lp:∀p∈X.pn++pins,p.1≠s.heap.objs.size:=fun p hp=>Nat.ne_of_lt (Heap.lt_size (I.pin p hp).1)
 have hex:∀b∈s.heap.objs.size::fp,(b∈X.ex\/X.s₀.heap.objs.size<=b)/\b≠X.env.locals/\b∉X.fs/\(∀x c,X.env.cells.lookup x=some c->c≠b)/\b < s3.heap.objs.size:=fun b hb=>by
  rw[hh3,sz3];rcases List.mem_cons.mp hb with e | hb
  .rw[e];exact ⟨.inr I.sz,lL,lfs,lc,Nat.lt_succ_self _⟩
  .obtain ⟨f0,f1,f2,f3,f4,f5⟩:=hfp b hb;exact ⟨f3,f1,f2,f4,Nat.lt_succ_of_lt (fplt b hb)⟩
 have hexp:∀b∈s.heap.objs.size::fp,∀p∈X.pn++pins,p.1≠b:=fun b hb=>by
  rcases List.mem_cons.mp hb with e | hb
  .rw[e];exact lp
  .exact (hfp b hb).2.2.2.2.2
 -- the block
 have OK:(blk X N' scope s3 H (s.heap.objs.size::fp)).Ok:=zmM I3 hkind hf hex;have clsub:=zgJ X.env.cells scope.names [] (by simp);have cown:∀x c,(cellsFrom (s3.heap.objs.size+1) scope.names (zdr X.env.cells scope.names [])).lookup x=some c->X.env.cells.lookup x=some c\/s3.heap.objs.size+1<=c:=fun x c e=>(zhk _ _ _ x c e).imp (clsub x c) id
 have eC:H3.objs.size=s3.heap.objs.size:=by rw[hh3]
 have keep1:∀b o,s3.heap.get? b=some o->(pushCells (H3.push { cls:=.type "dict",data:=.dict #[] }) scope.names).get? b=some o:=fun b o e=>pushCells_keeps _ _ b o (Heap.get?_push_of_some _ (by rw[<-hh3];exact e))
 have atC:∀x c,(cellsFrom (s3.heap.objs.size+1) scope.names (zdr X.env.cells scope.names [])).lookup x=some c->X.env.cells.lookup x=some c\/(pushCells (H3.push { cls:=.type "dict",data:=.dict #[] }) scope.names).IsCell c none:=fun x c e=>
  (zlP scope.names (H3.push { cls:=.type "dict",data:=.dict #[] }) _ x c (by rw[Heap.size_push,eC];exact e)).imp (clsub x c) id
 have hns₁:(pushCells (H3.push { cls:=.type "dict",data:=.dict #[] }) scope.names).Ns s3.heap.objs.size fun _=>none:=by
  rw[<-eC];exact (Heap.Ns.new H3 (.type "dict")).keeps (pushCells_keeps _ _)
 generalize pushCells (H3.push { cls:=.type "dict",data:=.dict #[] }) scope.names=h₁ at *;have capL:N'.length=js.length:=by
  have:=(Bool.and_eq_true _ _).mp hcap
  simpa using this.1
 have capA:∀(i:Nat) (x:Str) (v:V),N'[i]? = some x->(pick σ js)[i]? = some (some v)->∃i0,σ[i0]? = some (some v)/\X.N[i0]? = some x/\(X.env.scope.names.lookup x=some .cell\/X.env.scope.names.lookup x=some .free)/\scope.names.lookup x=some .free:=fun i x v e1 e2=>by
  have ha:=List.all_eq_true.mp ((Bool.and_eq_true _ _).mp hcap).2;unfold pick at e2;rw[List.getElem?_map] at e2
  cases ej:js[i]? with
  | none=>rw[ej] at e2;cases e2
  | some j=>
   rw[ej] at e2;have hm:(x,j)∈N'.zip js:=List.mem_of_getElem? (i:=i) (by rw[List.getElem?_zip_eq_some];exact ⟨e1,ej⟩);have hp:=ha _ hm
   cases j with
   | none=>simp at e2
   | some i0=>
    simp only[Bool.and_eq_true,Bool.or_eq_true,decide_eq_true_eq] at hp;refine ⟨i0, ?_,hp.1.1,hp.1.2,hp.2⟩;simp only[Option.map_some,Option.some.injEq] at e2
    cases q:σ[i0]? with
    | none=>rw[q] at e2;simp at e2
    | some z=>rw[q] at e2;simp at e2;rw[e2]
 have Cf:∀{H':Hp} {s':Shared},HOk X.prog X.w H' s'.heap->s'.heap.objs.size<=s3.heap.objs.size->H' s3.heap.objs.size=none:=fun ok z=>ok.fresh z
 have I4:Inv (blk X N' scope s3 H (s.heap.objs.size::fp)) [(s.heap.objs.size,{ cls:=.type "list",dict:=none,data:=.seq ([]:List Value).toArray })] (pick σ js) H { s3 with heap:=h₁ }:=by
  refine ⟨OK,rfl,I3.bare,Un.kept keep1,⟨_,hns₁,fun i x v e1 e2 e3=>?_⟩,fun x c e=>?_,I3.hok.fresh (Nat.le_refl _),fun x c e=>(cown x c e).elim (I.freeC x c) fun q=>I3.hok.fresh (Nat.le_of_succ_le q),fun p hp=>?_,I3.hok.kept keep1, ?_⟩
  .obtain ⟨i0,q1,q2,q3,q4⟩:=capA i x v e1 e2;obtain ⟨m,hn,hlo⟩:=I3.loc;obtain ⟨u,r,lk⟩:=hlo i0 x v q2 q1 (.inr q3);refine ⟨u,r,.inr ?_⟩;have hk':X.env.kindOf x=some .cell\/X.env.kindOf x=some .free:=q3;rcases lk with ⟨k,_⟩ | ⟨_,c,hcc,hcell'⟩
   .rcases hk' with z | z<;>(rw[z] at k;cases k)
   .obtain ⟨c',hc'⟩:=zg7 X.env.cells scope.names [] x (PySem.mem_of_lookup q4) ⟨c,hcc⟩
    have:c'=c:=Option.some.inj ((clsub x c' hc').symm.trans hcc)
    subst this;refine ⟨?_,c',(zkD _ _ _ x fun z=>by
      have z1:=List.all_eq_true.mp hf _ z;simp only[Bool.and_eq_true,Bool.or_eq_true,bne_iff_ne,ne_eq,decide_eq_true_eq] at z1;have z2:=z1.1.1.resolve_left fun z=>z trivial
      rw[q4] at z2;cases z2).trans hc', ?_⟩
    .rcases zeC (env:=X.env) q4 with z | z
     .exact .inl z
     .exact .inr z
    .obtain ⟨o,e,d⟩:=hcell';exact ⟨o,keep1 _ _ e,d⟩
  .rcases atC x c e with e | e
   .obtain ⟨v,o,e',d⟩:=I3.cell x c e;exact ⟨v,o,keep1 _ _ e',d⟩
   .exact ⟨_,e⟩
  .have e:p=(s.heap.objs.size,{ cls:=.type "list",dict:=none,data:=.seq ([]:List Value).toArray }):=by simpa [blk] using hp
   subst e;refine ⟨keep1 _ _ (by rw[hh3];exact hl3),hl, ?_, ?_,fun v z=>by cases z⟩
   .show s.heap.objs.size≠s3.heap.objs.size
    rw[hh3,sz3];exact Nat.ne_of_lt (Nat.lt_succ_self _)
   .exact fun z=>by
     rcases List.mem_cons.mp (I.stkSub _ z) with e | z
     .exact lL e
     .exact lfs z
  .rw[zhj];exact capL.symm
 obtain ⟨W,⟨m0,w0⟩,turn⟩:=h;have stat:∀{ob:Obj} {H':Hp},(∀b∈fp,H' b=none)->∀b∈fp,FpOk (blk X N' scope s3 H (s.heap.objs.size::fp)) [(s.heap.objs.size,ob)] H' b:=fun {ob H'} hn b hb=>by
  obtain ⟨f0,f1,f2,f3,f4,f5⟩:=hfp b hb;refine ⟨hn b hb, ?_,fun z=>?_,.inl (List.mem_cons_of_mem _ hb),fun x c e=>(cown x c e).elim (f4 x c) fun q=>Nat.ne_of_gt (Nat.lt_of_lt_of_le (Nat.lt_succ_of_lt (by rw[hh3,sz3];exact Nat.lt_succ_of_lt (fplt b hb))) q),fun p hp=>?_⟩
  .show b≠s3.heap.objs.size
   rw[hh3,sz3];exact Nat.ne_of_lt (Nat.lt_succ_of_lt (fplt b hb))
  .rcases List.mem_cons.mp (I.stkSub _ z) with e | z
   .exact f1 e
   .exact f2 z
  .have e:p=(s.heap.objs.size,ob):=by simpa [blk] using hp
   subst e;exact Nat.ne_of_gt (fplt b hb)
 have loop:∀s₅:Shared,s₅={ s3 with heap:=h₁ }->
   codeAny (model X.prog X.w) X.A (.compLoop (.ListComp elt [⟨tgt,iter,ifs,0⟩] scope pos) 0 (.ref it) (.ref s.heap.objs.size) (compEnvC scope (cellsFrom (s3.heap.objs.size+1) scope.names (zdr X.env.cells scope.names [])) s3.heap.objs.size X.env))
    (RR (.ref s.heap.objs.size) s3.heap.objs.size) s₅:=by
  rintro s₅ rfl
  refine zf1 (fun n s'=>∃(i:Nat) (acc:List V) (its:List Value) (k:Nat) (H':Hp),Vals acc its/\Inv (blk X N' scope s3 H (s.heap.objs.size::fp)) [(s.heap.objs.size,{ cls:=.type "list",data:=.seq its.toArray k })] (pick σ js) H' s'/\
   tn i s'.heap/\(∀b∈fp,H' b=none)/\W i n acc H') ?_ m0 ⟨0,[],[],0,H,.nil,I4,T.keep _ _ _ st (fun b hb o e=>keep1 b o (by rw[hh3];exact old3 b o e)),fun b hb=>(hfp b hb).1,w0⟩
  rintro n s' ⟨i,acc,its,k,H',rv,J1,st1,fr1,w1⟩
  rcases turn i n acc H' w1 with ⟨stop,hz,qn⟩ | ⟨go,hz,step⟩
  .refine thn (T.done (blk X N' scope s3 H (s.heap.objs.size::fp)) rfl rfl rfl hc i _ s' _ H' (fun _ _=>False) J1 (stat fr1) st1 stop) fun r s4 hx__=>?_
   obtain ⟨hr,I5⟩:=hx__;subst hr;obtain ⟨pe,pn,_⟩:=I5.pin (s.heap.objs.size,{ cls:=.type "list",data:=.seq its.toArray k }) (by simp[blk]);have IX:Inv X pins σ H' s4:=I3.call' I5.os I5.base I5.hok I5.bare fun b hb=>by
    obtain ⟨h1,h2,h3,h4,h5⟩:=hex b hb;exact ⟨h1,h2,h4,hexp b hb⟩
   have IY:Inv X pins σ (upd H' s.heap.objs.size (.lst acc)) s4:=IX.adopt pn lL (.inr I.sz) lc lp ⟨hz,its,k,rv,pe⟩;obtain ⟨m',hm',_⟩:=I5.loc;refine hRR _ _ s4 m' H' acc IY hm' ⟨?_, ?_, ?_, ?_, ?_⟩ (qn _ pn)
   .rw[zaB (by rw[hh3,sz3];exact Nat.ne_of_gt (Nat.lt_succ_self _))];exact I5.free
   .rw[hh3,sz3];exact Nat.ne_of_gt (Nat.lt_succ_of_lt I.lt)
   .rw[hh3,sz3];exact Nat.le_succ_of_le I.sz
   .exact fun x c e=>by
     obtain ⟨v,q⟩:=I.cell x c e;rw[hh3,sz3];exact Nat.ne_of_lt (Nat.lt_succ_of_lt q.lt)
   .exact fun p hp=>by rw[hh3,sz3];exact Nat.ne_of_lt (Nat.lt_succ_of_lt (Heap.lt_size (I.pin p hp).1))
  .refine thn (T.item (blk X N' scope s3 H (s.heap.objs.size::fp)) rfl rfl rfl hc i _ s' _ H' (fun _ _=>False) J1 (stat fr1) st1 go) fun r s4 hx__=>?_
   obtain ⟨u,hr,h4⟩:=hx__;subst hr;refine thn h4 fun _ s5 hx__=>?_
   obtain ⟨x,H5,I5,r5,y5,st5,fr5⟩:=hx__;have I5':=I5.pinned (stat fr5) (T.obj _ _ st5);obtain ⟨hg,ht,he⟩:=hb s3 H (s.heap.objs.size::fp);refine thn (hg _ s5 _ H5 x u _ I5' r5 (hgk _ _ _ _ (step x H5 y5))) fun _ s6 hx__=>?_
   obtain ⟨σ6,H6,I6,q6,kk6⟩:=hx__;refine thn (ht _ s6 σ6 H6 _ I6 q6) fun b s7 hx__=>?_
   obtain ⟨H7,I7,q7⟩:=hx__;have fin:∀{σ8:St} {H8:Hp} {s8:Shared},Inv (blk X N' scope s3 H (s.heap.objs.size::fp)) ([(s.heap.objs.size,{ cls:=.type "list",data:=.seq its.toArray k })]++zfn fp s5.heap) σ8 H8 s8->
     tn (i+1) s8.heap/\(∀b∈fp,H8 b=none):=fun {σ8 H8 s8} I8=>by
    refine ⟨T.keep _ _ _ st5 fun b hb o e=>(I8.pin (b,o) (List.mem_append_right _ (List.mem_append_right _ (zdN hb e)))).1,fun b hb=>?_⟩;obtain ⟨o,e,d⟩:=T.obj _ _ st5 b hb;exact (I8.pin (b,o) (List.mem_append_right _ (List.mem_append_right _ (zdN hb e)))).2.1
   have wk:∀{H8:Hp} {s8:Shared} {pl:List (Addr×Obj)},Inv (blk X N' scope s3 H (s.heap.objs.size::fp)) pl σ6 H8 s8->Inv (blk X N' scope s3 H (s.heap.objs.size::fp)) pl (pick σ js) H8 s8:=
    fun I8=>I8.weak (by rw[zhj,I8.len];exact capL.symm) fun i v e=>by
     have e':=e;unfold pick at e';rw[List.getElem?_map] at e'
     cases ej:js[i]? with
     | none=>rw[ej] at e';cases e'
     | some j=>
      cases j with
      | none=>rw[ej] at e';simp at e'
      | some j=>rw[kk6 i j ej];exact e
   have pinl:∀{H8:Hp} {s8:Shared},Inv (blk X N' scope s3 H (s.heap.objs.size::fp)) ([(s.heap.objs.size,{ cls:=.type "list",data:=.seq its.toArray k })]++zfn fp s5.heap) σ6 H8 s8->
     s8.heap.get? s.heap.objs.size=some { cls:=.type "list",data:=.seq its.toArray k }/\H8 s.heap.objs.size=none:=fun I8=>by
    obtain ⟨a1,a2,_⟩:=I8.pin (s.heap.objs.size,{ cls:=.type "list",data:=.seq its.toArray k }) (List.mem_append_right _ (List.mem_append_left _ (List.mem_singleton.mpr rfl)));exact ⟨a1,a2⟩
   have lblk:s.heap.objs.size≠s3.heap.objs.size:=by rw[hh3,sz3];exact Nat.ne_of_lt (Nat.lt_succ_self _)
   have lbfs:s.heap.objs.size∉frs X.stack:=fun z=>by
    rcases List.mem_cons.mp (I.stkSub _ z) with e | z
    .exact lL e
    .exact lfs z
   cases b with
   | false=>
    obtain ⟨m',hm',w'⟩:=q7;obtain ⟨t8,f8⟩:=fin I7;exact ⟨m',hm',i+1,acc,its,k,H7,rv,(wk I7).pins_of (fun p hp=>by
     have e:p=(s.heap.objs.size,{ cls:=.type "list",data:=.seq its.toArray k }):=by simpa using hp
     subst e;exact ⟨(pinl I7).1,(pinl I7).2,lblk,lbfs,fun v z=>by cases z⟩),t8,f8,w'⟩
   | true=>
    rw[if_pos rfl];refine thn (he _ s7 σ6 H7 _ I7 q7) fun y s8 hx__=>?_
    obtain ⟨v,H8,I8,r8,m',hm',w'⟩:=hx__;obtain ⟨t8,f8⟩:=fin I8;obtain ⟨pl1,pl2⟩:=pinl I8;have hlen:=rv.length;refine append_at (hsz:=by show its.toArray.size<=sizeLine;rw[List.size_toArray,<-hlen];exact Nat.le_of_lt hz) pl1 fun h9 hs9 hD9=>?_
    have J0:Inv (blk X N' scope s3 H (s.heap.objs.size::fp)) [] (pick σ js) H8 s8:=(wk I8).pins_of fun p hp=>absurd hp (by simp)
    have J9:Inv (blk X N' scope s3 H (s.heap.objs.size::fp)) [] (pick σ js) H8 { s8 with heap:=h9 }:=
     J0.turned (t':=s8.toks) (it:=s.heap.objs.size) (fun b o hb e=>(hs9.2 b hb).trans e) pl2 lblk (.inl List.mem_cons_self) (fun x c e=>(cown x c e).elim (lc x c) fun q=>Nat.ne_of_gt (Nat.lt_of_lt_of_le (Nat.lt_succ_of_lt (by rw[hh3,sz3];exact Nat.lt_succ_self _)) q)) (fun p hp=>absurd hp (by simp[blk]))
    refine ⟨m',hm',i+1,acc++[v],its++[y],k+1,H8,rv.append (.cons r8 .nil),J9.pins_of (fun p hp=>?_),T.keep _ _ _ t8 (fun b hb o e=>(hs9.2 b (Nat.ne_of_lt (fplt b hb))).trans e),f8,w'⟩;have e:p=(s.heap.objs.size,{ cls:=.type "list",data:=.seq (its++[y]).toArray (k+1) }):=by simpa using hp
    subst e;refine ⟨?_,pl2,lblk,lbfs,fun v z=>by cases z⟩
    show h9.get? _=_
    rw[hD9];simp
 subst hs3;exact codeAny_compStart_list (loop _ rfl) (T.self _ 0 _ _ _ (T.keep _ _ _ st (fun b hb o e=>keep1 b o (by rw[hh3];exact old3 b o e))) (loop _ rfl))
theorem zpE {wi:TI} (hc:X.calm=true) (hi:PI X tgt iter wi) (hcap:zjL X.N X.env.scope N' scope js=true) (hgk:GK js g) (hf:zfm X.env.scope scope=true) (hkind:scope.kind=.function)
  (hb:∀(s':Shared) (H':Hp) (ex:List Addr),PG (blk X N' scope s' H' ex) tgt g/\PF (blk X N' scope s' H' ex) ifs tt/\PE (blk X N' scope s' H' ex) elt te)
  (hs:∀x,foldedSetIterable iter X.env x=pure x:=by intro _;rfl):PE X (.ListComp elt [⟨tgt,iter,ifs,0⟩] scope pos) (tLC wi js g tt te):=by
 intro pins s σ H Q I h;have hnames:∀y∈scope.names,y.2=.local->scope.names.lookup y.1=some .local:=fun y hy e=>by
  have:=List.all_eq_true.mp hf y hy
  simp only[Bool.and_eq_true,Bool.or_eq_true,bne_iff_ne,ne_eq,decide_eq_true_eq] at this;exact this.2.resolve_left fun z=>z e
 have hclos:closureFor scope X.env=pure (zdr X.env.cells scope.names []):=zkO fun y hy e=>by
  have:=List.all_eq_true.mp hf y hy
  simp only[Bool.and_eq_true,Bool.or_eq_true,bne_iff_ne,ne_eq,decide_eq_true_eq] at this;exact I.ok.has y.1 (this.1.2.resolve_left fun z=>z e)
 rw[eval_ListComp];refine wpAny_comprehension_free (use:=none) rfl hs hclos hkind hnames (thn (hi pins s σ H _ I h) fun v s1 h1=>thn h1 fun itv s2 h2=>?_);obtain ⟨it,fp,tn,J,H2,e,I2,T,st2,f2,go⟩:=h2;subst e;refine zhs (Q:=Q) hc hkind hf hcap hgk I2 T st2 f2 go hb ?_;intro l C s' m' H' acc IY hn F q;exact ⟨m',hn,fun h' hs'=>⟨.ref l,_,F.turned IY hs',rfl,q⟩⟩
theorem zjR {wi:TI} {i:Nat} {y:Str} {py spos:Pos} (hN:X.N.Nodup) (hiy:X.N[i]? = some y) (hy:Loc X.env.scope y)
  (hc:X.calm=true) (hi:PI X tgt iter wi) (hcap:zjL X.N X.env.scope N' scope js=true) (hgk:GK js g) (hf:zfm X.env.scope scope=true) (hkind:scope.kind=.function)
  (hb:∀(s':Shared) (H':Hp) (ex:List Addr),PG (blk X N' scope s' H' ex) tgt g/\PF (blk X N' scope s' H' ex) ifs tt/\PE (blk X N' scope s' H' ex) elt te)
  (hsw:swapsWith (.ListComp elt [⟨tgt,iter,ifs,0⟩] scope pos) (some (.Name y py)) spos.line X.env=pure true:=by rfl)
  (hs:∀x,foldedSetIterable iter X.env x=pure x:=by intro _;rfl) (hfn:X.fn y=true\/X.env.scope.names.lookup y=some .local:=by first | exact .inl rfl | exact .inr rfl | assumption) :
  PS X (.Assign [.Name y py] (.ListComp elt [⟨tgt,iter,ifs,0⟩] scope pos) spos) (tAsg (tLC wi js g tt te) (zhW i)):=by
 intro pins s σ H D I h;have hnames:∀y∈scope.names,y.2=.local->scope.names.lookup y.1=some .local:=fun y hy e=>by
  have:=List.all_eq_true.mp hf y hy
  simp only[Bool.and_eq_true,Bool.or_eq_true,bne_iff_ne,ne_eq,decide_eq_true_eq] at this;exact this.2.resolve_left fun z=>z e
 have hclos:closureFor scope X.env=pure (zdr X.env.cells scope.names []):=zkO fun y hy e=>by
  have:=List.all_eq_true.mp hf y hy
  simp only[Bool.and_eq_true,Bool.or_eq_true,bne_iff_ne,ne_eq,decide_eq_true_eq] at this;exact I.ok.has y.1 (this.1.2.resolve_left fun z=>z e)
 rw[exec_Assign_Name_used _ _ _ _ hsw];refine wpAny_bind (wpAny_standAt (wpAny_bind ?_))
 show wpAny _ X.A (do let _ <-comprehension (.ListComp elt [⟨tgt,iter,ifs,0⟩] scope pos) scope X.env _ (newList []) false (eval iter X.env) (some (assign (.Name y py) X.env))) _ _ s
 refine wpAny_bind (wpAny_mono (wpAny_comprehension_free (use:=some (assign (.Name y py) X.env)) (Q:=fun _ s'=>SP X pins D .next s') rfl hs hclos hkind hnames
  (thn (hi pins s σ H _ I h) fun v s1 h1=>thn h1 fun itv s2 h2=>?_)) (fun _ s' hq=>wpAny_pure (wpAny_pure hq)) fun _ _ e=>e)
 obtain ⟨it,fp,tn,J,H2,e,I2,T,st2,f2,go⟩:=h2;subst e;refine zhs (Q:=fun x H1=>zhW i x σ H1 D.nx) hc hkind hf hcap hgk I2 T st2 f2 go hb ?_;intro l C s' m' H' acc IY hn F q
 show wpAny _ X.A (assign (.Name y py) X.env (.ref l)) _ _ s'
 refine wpAny_assign_Name (zgb IY hN hiy hy (v:=.ref l) rfl (fun s4 I4 ⟨a,hsb,ha⟩=>?_) hfn);have Ca:C≠a:=by
  rcases ha with e | e
  .rw[e];exact F.ne
  .exact fun z=>F.cl y a e z.symm
 exact ⟨m',hn.sameBut hsb Ca,fun h' hs'=>⟨_,_,F.turned I4 hs',q⟩⟩
end
mutual
inductive Dn (H:Hp) (P:Addr->Prop):V->PyData->Prop where
 | non:Dn H P .non .none
 | bl (b:Bool):Dn H P (.bl b) (.bool b)
 | int (i:Int):Dn H P (.int i) (.int i)
 | str (x:Str):Dn H P (.str x) (.str x)
 | lst {a:Addr} {xs:List V} {ds:List PyData}:¬P a->H a=some (.lst xs)->Dns H P xs ds->Dn H P (.ref a) (.list ds)
 | tup {a:Addr} {xs:List V} {ds:List PyData}:¬P a->H a=some (.tup xs)->Dns H P xs ds->Dn H P (.ref a) (.tuple ds)
inductive Dns (H:Hp) (P:Addr->Prop):List V->List PyData->Prop where
 | nil:Dns H P [] []
 | cons {x:V} {d:PyData} {xs:List V} {ds:List PyData}:Dn H P x d->Dns H P xs ds->Dns H P (x::xs) (d::ds)
end
theorem Same.new {H:Hp} {p:Addr} {o:HO} (hn:H p=none):Same H (upd H p o):=fun b u e=>by rw[zaB (zbg e hn)];exact e
theorem Dn.mapX {P P':Addr->Prop} {H H':Hp} (m:∀a o,H a=some o->¬P a->H' a=some o/\¬P' a) {v:V} {d:PyData} (h:Dn H P v d):Dn H' P' v d:=
 Dn.rec (motive_1:=fun v d _=>Dn H' P' v d) (motive_2:=fun v d _=>Dns H' P' v d) .non .bl .int .str (fun n h _ ih=>.lst (m _ _ h n).2 (m _ _ h n).1 ih) (fun n h _ ih=>.tup (m _ _ h n).2 (m _ _ h n).1 ih) .nil (fun _ _ a b=>.cons a b) h
theorem Dns.mapX {P P':Addr->Prop} {H H':Hp} (m:∀a o,H a=some o->¬P a->H' a=some o/\¬P' a) {v:List V} {d:List PyData} (h:Dns H P v d):Dns H' P' v d:=
 Dns.rec (motive_1:=fun v d _=>Dn H' P' v d) (motive_2:=fun v d _=>Dns H' P' v d) .non .bl .int .str (fun n h _ ih=>.lst (m _ _ h n).2 (m _ _ h n).1 ih) (fun n h _ ih=>.tup (m _ _ h n).2 (m _ _ h n).1 ih) .nil (fun _ _ a b=>.cons a b) h
theorem Dn.weak {P P':Addr->Prop} {H:Hp} (e:∀a,P' a->P a) {v:V} {d:PyData} (h:Dn H P v d):Dn H P' v d:=h.mapX fun a _ x n=>⟨x,fun z=>n (e a z)⟩
theorem Dns.length {P:Addr->Prop} {H:Hp}:∀{xs:List V} {ds:List PyData},Dns H P xs ds->xs.length=ds.length
 | _,_,.nil=>rfl
 | _,_,.cons _ t=>by simp[Dns.length t]
theorem Dns.getV {P:Addr->Prop} {H:Hp}:∀{xs:List V} {ds:List PyData} {i:Nat} {v:V},Dns H P xs ds->xs[i]? = some v->∃d,ds[i]? = some d/\Dn H P v d
 | _,_,_,_,.nil,e=>by simp at e
 | _,_,0,_,.cons a _,e=>by simp at e;subst e;exact ⟨_,rfl,a⟩
 | _,_,i+1,d,.cons _ t,e=>by
  obtain ⟨v,h1,h2⟩:=Dns.getV (i:=i) (v:=d) t (by simpa using e);exact ⟨v,by simpa using h1,h2⟩
theorem Dns.app {P:Addr->Prop} {H:Hp}:∀{xs ys:List V} {ds es:List PyData},Dns H P xs ds->Dns H P ys es->Dns H P (xs++ys) (ds++es)
 | _,_,_,_,.nil,s=>s
 | _,_,_,_,.cons r t,s=>.cons r (Dns.app t s)
theorem Dns.take {P:Addr->Prop} {H:Hp}:∀{xs:List V} {ds:List PyData} (n:Nat),Dns H P xs ds->Dns H P (xs.take n) (ds.take n)
 | _,_,0,_=>.nil
 | _,_,_+1,.nil=>.nil
 | _,_,n+1,.cons r t=>.cons r (Dns.take n t)
theorem Dns.drop {P:Addr->Prop} {H:Hp}:∀{xs:List V} {ds:List PyData} (n:Nat),Dns H P xs ds->Dns H P (xs.drop n) (ds.drop n)
 | _,_,0,r=>r
 | _,_,_+1,.nil=>.nil
 | _,_,n+1,.cons _ t=>Dns.drop n t
theorem Dns.rev {P:Addr->Prop} {H:Hp}:∀{xs:List V} {ds:List PyData},Dns H P xs ds->Dns H P xs.reverse ds.reverse
 | _,_,.nil=>.nil
 | _,_,.cons r t=>by rw[List.reverse_cons,List.reverse_cons];exact Dns.app (Dns.rev t) (.cons r .nil)
theorem Dns.ints {P:Addr->Prop} {H:Hp}:∀{xs:List V} {ns:List Int},Dns H P xs (ns.map PyData.int)->xs=ns.map V.int
 | _,[],h=>by cases h;rfl
 | _,n::ns,h=>by
  cases h with
  | cons a t=>cases a;rw[Dns.ints t];rfl
section
variable {X:Cx} {pins:List (Addr×Obj)} {σ:St} {H:Hp} {s:Shared} {P:Addr->Prop}
theorem rd_a (I:Inv X pins σ H s):(∀u,RelV .non u->∃as,Reads s.heap u .none as)/\(∀b u,RelV (.bl b) u->∃as,Reads s.heap u (.bool b) as)/\(∀i u,RelV (.int i) u->∃as,Reads s.heap u (.int i) as)/\(∀x u,RelV (.str x) u->∃as,Reads s.heap u (.str x) as):=
 ⟨fun u r=>by cases r;exact ⟨_,.none⟩,fun b u r=>by cases r;exact ⟨_,.bool b⟩,fun i u r=>by obtain ⟨t,rfl⟩:=r;exact ⟨_,.int i t⟩,fun x u r=>by obtain ⟨t,rfl⟩:=r;exact ⟨_,.str x t⟩⟩
theorem rd_l (I:Inv X pins σ H s) {a:Addr} {xs:List V} {ds:List PyData} (_:¬P a) (h:H a=some (.lst xs)) (_:Dns H P xs ds) (ih:∀u,Vals xs u->∃as,ReadsAll s.heap u ds as) (u:Value) (r:RelV (.ref a) u):∃as,Reads s.heap u (.list ds) as:=by
 cases r;obtain ⟨its,rv,⟨o,n,e,c,_,d⟩,_⟩:=I.list (SqL.of h);obtain ⟨as,q⟩:=ih _ rv;exact ⟨_,reads_list_at e c d (by simpa using q)⟩
theorem rd_t (I:Inv X pins σ H s) {a:Addr} {xs:List V} {ds:List PyData} (_:¬P a) (h:H a=some (.tup xs)) (_:Dns H P xs ds) (ih:∀u,Vals xs u->∃as,ReadsAll s.heap u ds as) (u:Value) (r:RelV (.ref a) u):∃as,Reads s.heap u (.tuple ds) as:=by
 cases r;obtain ⟨its,rv,⟨o,e,c,n,d⟩,_⟩:=I.tuple (SqT.of h);obtain ⟨as,q⟩:=ih _ rv;exact ⟨_,reads_tuple_at e c d (by simpa using q)⟩
theorem rd_c {x:V} {d:PyData} {xs:List V} {ds:List PyData} (_:Dn H P x d) (_:Dns H P xs ds) (i1:∀u,RelV x u->∃as,Reads s.heap u d as) (i2:∀u,Vals xs u->∃as,ReadsAll s.heap u ds as) (u:List Value) (r:Vals (x::xs) u):∃as,ReadsAll s.heap u (d::ds) as:=by
 cases r with
 | cons r1 r2=>
  obtain ⟨as,q⟩:=i1 _ r1;obtain ⟨bs,q'⟩:=i2 _ r2;exact ⟨_,.cons q q'⟩
theorem Dn.reads (I:Inv X pins σ H s) {v:V} {d:PyData} {u:Value} (h:Dn H P v d) (r:RelV v u):∃as,Reads s.heap u d as:=
 Dn.rec (motive_1:=fun v d _=>∀u,RelV v u->∃as,Reads s.heap u d as) (motive_2:=fun v d _=>∀u,Vals v u->∃as,ReadsAll s.heap u d as) (rd_a I).1 (rd_a I).2.1 (rd_a I).2.2.1 (rd_a I).2.2.2 (rd_l I) (rd_t I) (fun u r=>by cases r;exact ⟨_,.nil⟩) (rd_c (s:=s)) h u r
end
section
variable {X:Cx}
open PySem.SeqAt in
@[irreducible] def rEqD (f:Bool->Bool):R2:=fun x y H Q=>(∃i j,x=.int i/\y=.int j/\Q (.bl (f (decide (i=j)))) H)\/
 ∃(P P':Addr->Prop) (d e:PyData),Dn H P x d/\Dn H P' y e/\shaped d=true/\shaped e=true/\Q (.bl (f (PyData.eqv d e))) H
theorem znx (hu:X.A.units+64 < cLine):OpR X (compareOp .Eq) (rEqD fun b=>b):=by
 intro pins s σ H x y v u Q I rx ry h;unfold rEqD at h;rcases h with ⟨i,j,rfl,rfl,q⟩ | ⟨P,P',d,e,hd,he,sd,se,q⟩
 .obtain ⟨t,rfl⟩:=rx;obtain ⟨t',rfl⟩:=ry;exact eq_int (by rw[Bool.beq_eq_decide_eq];exact ⟨.bl _,H,I,rfl,q⟩)
 .obtain ⟨as,ra⟩:=hd.reads I rx;obtain ⟨bs,rb⟩:=he.reads I ry;exact eq_dataH ra rb sd se hu ⟨.bl _,H,I,rfl,q⟩
theorem zn7 (hu:X.A.units+64 < cLine):OpR X (compareOp .NotEq) (rEqD fun b=>!b):=by
 intro pins s σ H x y v u Q I rx ry h;unfold rEqD at h;rcases h with ⟨i,j,rfl,rfl,q⟩ | ⟨P,P',d,e,hd,he,sd,se,q⟩
 .obtain ⟨t,rfl⟩:=rx;obtain ⟨t',rfl⟩:=ry;exact ne_int (by rw[bne,Bool.beq_eq_decide_eq];exact ⟨.bl _,H,I,rfl,q⟩)
 .obtain ⟨as,ra⟩:=hd.reads I rx;obtain ⟨bs,rb⟩:=he.reads I ry;exact ne_dataH ra rb sd se hu ⟨.bl _,H,I,rfl,q⟩
open PySem.SeqAt in
theorem eqD {H:Hp} {f:Bool->Bool} {P P':Addr->Prop} {x y:V} {d e:PyData} {Q:VK} (hd:Dn H P x d) (he:Dn H P' y e) (sd:shaped d=true) (se:shaped e=true) (q:Q (.bl (f (PyData.eqv d e))) H):rEqD f x y H Q:=by
 unfold rEqD;exact .inr ⟨P,P',d,e,hd,he,sd,se,q⟩
end
def cutD {α:Type} (xs:List α) (lo hi:Option Int):List α:=(xs.drop (HT.sIx xs.length 0 lo)).take (HT.sIx xs.length xs.length hi - HT.sIx xs.length 0 lo)
theorem Dns.cut {P:Addr->Prop} {H:Hp} {xs:List V} {ds:List PyData} (h:Dns H P xs ds) (lo hi:Option Int):Dns H P (cutV xs lo hi) (cutD ds lo hi):=by
 unfold cutV cutD;rw[h.length];exact (h.drop _).take _
section
variable {X:Cx}
theorem zi3 (hc:X.calm=true):CallR X (.builtin "sum") (fun xs H Q=>∃(x:V) (P:Addr->Prop) (ns:List Int),xs=[x]/\Dn H P x (.list (ns.map PyData.int))/\Q (.int ns.sum) H):=by
 intro pins s σ H xs us Q I r h;obtain ⟨x,P,ns,rfl,hd,q⟩:=h;obtain ⟨u,rfl,rx⟩:=zhb r
 cases hd with
 | lst n h t=>
  cases rx;obtain ⟨its,rv,pl,hz⟩:=I.list (SqL.of h);rw[t.ints] at rv;have hi:IntsAre its ns:=zhV rv;have hl:=pl.isList;obtain ⟨ys,hy⟩:=hi.allInts.items;rw[hy] at hl;refine sum_intListG (I.ok.hd hc) hl fun h' tk t' hk=>⟨.int ns.sum,H,I.kept hk,⟨t', ?_⟩,q⟩
  have e1:=hi.numsOf;have e2:numsOf its.toArray.toList=ys.toList.map (·.1):=by rw[hy];exact nums_intItems ys
  have e3:ns=ys.toList.map (·.1):=by rw[<-e1];simpa using e2
  rw[preSum_eq,List.take_of_length_le (by simp),<-e3]
theorem zk9:MtR X "int.bit_length" (fun x xs H Q=>∃i,x=.int i/\xs=[]/\Q (.int (Builtin.Int.intBits i)) H):=by
 intro pins s σ H x xs v us Q I rx rs h;obtain ⟨i,rfl,rfl,q⟩:=h;obtain ⟨t,rfl⟩:=rx;cases rs;exact call_int_bit_length ⟨.int _,H,I.tok _,⟨_,rfl⟩,q⟩
theorem zj2:CallR X (.builtin "isinstance") (fun xs H Q=>∃(x:V) (T:String) (t:Value) (b:Bool),xs=[x,.ty T]/\TyOf X.K H x t/\PySem.W.kitOne X.K t (.type T)=some b/\Q (.bl b) H):=by
 intro pins s σ H xs us Q I r h;obtain ⟨x,T,t,b,rfl,ty,e,q⟩:=h;obtain ⟨u,w',rfl,ru,rw'⟩:=znY r
 cases (show w'=Value.type T from rw')
 exact ziU I ru ty e fun tk=>⟨.bl b,H,I.tok tk,rfl,q⟩
structure zhM (P:Program) (w:World) (K:PySem.W.Frag) (mg:Str->Option Value) (base:Heap) (x:Str) (ps:List Str) (k:Nat) (sp:Sp):Prop where
 ex:∃(f:Addr) (fd:FuncData),mg x=some (.ref f)/\PySem.W.keepIn K (.ref f)=true/\Binds K fd ps []/\FnOk P w K mg base CX0 k f fd ps sp/\∃oc od osl,K.lookup f=some ⟨oc,od,.func fd,osl⟩
def Ite (K:PySem.W.Frag) (l:Addr):It:=
 ⟨fun i H=>∃xs x,SqL K H l xs/\xs[i]? = some x,fun i H v H'=>∃t x,v=.ref t/\H t=none/\H'=upd H t (.tup [.int i,x])/\∀xs,SqL K H l xs->xs[i]? = some x,fun i H=>∃xs,SqL K H l xs/\xs.length<=i⟩
theorem zjK {P:Program} {w:World} {K:PySem.W.Frag} {elts:List Expr} {k:Nat} {tp:Pos} (l e it:Addr) (hne:e≠it):Turn P w K (.Tuple elts k tp) (Ite K l) [e,it] e (fun i h=>(∃old,IsEnum h e it i old)/\h.IsListIter it l i) where
 mem:=by simp
 obj:=fun i h st b hb=>by
  obtain ⟨⟨old,he⟩,⟨o,ho,hc,hd⟩⟩:=st;rcases List.mem_cons.mp hb with z | hb
  .subst z;exact ⟨_,he,fun v z=>by cases z⟩
  .have z:b=it:=by simpa using hb
   subst z;exact ⟨o,ho,fun v z=>by rw[hd] at z;cases z⟩
 keep:=fun i h h' st kk=>by
  obtain ⟨⟨old,he⟩,hit⟩:=st;exact ⟨⟨old,kk e (by simp) _ he⟩,hit.at fun o q=>kk it (by simp) o q⟩
 item:=by
  intro X hP hw hK hc i pins s σ H E I hf st hg;subst hP hw hK;obtain ⟨⟨old,he⟩,hit⟩:=st;obtain ⟨xs,x,hq,hx⟩:=hg;obtain ⟨its,rv,p,hz⟩:=I.list hq;obtain ⟨u,hu,ru⟩:=rv.get hx;refine wpAny_pyNext_enum_item he hit p.isList (x:=u) (by simpa using hu) hne fun h' ho hit' hT hsz hk=>?_
  refine ⟨_,rfl,wpAny_letOwnedTupleGo_enum ho fun h'' he'' hs''=>?_⟩;have hfresh:H s.heap.objs.size=none:=I.hok.fresh (Nat.le_refl _);have helt:e < s.heap.objs.size:=Heap.lt_size he;have kk:∀b o,b≠e->b≠it->s.heap.get? b=some o->h''.get? b=some o:=fun b o n1 n2 q=>(hs''.2 b n1).trans (hk b o n1 n2 q)
  have hT'':h''.get? s.heap.objs.size=some { cls:=.type "tuple",data:=.seq #[.int i s.toks,u] }:=(hs''.2 _ (Nat.ne_of_gt helt)).trans hT;have nfp:∀b u',H b=some u'->b≠e/\b≠it:=fun b u' q=>⟨fun z=>(by rw[z,(hf e (by simp)).1] at q;cases q),fun z=>(by rw[z,(hf it (by simp)).1] at q;cases q)⟩
  obtain ⟨o2,ho2,c2,d2⟩:=id hit';have hit'':h''.IsListIter it l (i+1):=⟨o2,(hs''.2 it hne.symm).trans ho2,c2,d2⟩;have J:Inv X pins σ (upd H s.heap.objs.size (.tup [.int i,x])) { s with heap:=h'',toks:=s.toks+1 }:=by
   refine I.step (h':=h'') (g':=s.gens) (d':=s.drawn) (t':=s.toks+1) (ch:=[e,it]) (fun b hb=>?_) (fun b o _ _ hcn q _=>kk b o (fun z=>hcn (by simp[z])) (fun z=>hcn (by simp[z])) q)
    (fun b o _ _ hcn q _=>⟨o.slots,kk b o (fun z=>hcn (by simp[z])) (fun z=>hcn (by simp[z])) q⟩) (fun b o _ q nn=>by rw[zaB (Nat.ne_of_lt (Heap.lt_size q))];exact nn)
    (fun b o hcn q=>⟨o,kk b o (fun z=>hcn (by simp[z])) (fun z=>hcn (by simp[z])) q⟩) (fun b ys q=>by rw[zaB (zbg q hfresh)];exact q) (fun b o u' q=>by rw[zaB (zbg q hfresh)];exact q)
    (fun b ps q=>⟨#[],by rw[zaB (zbg q hfresh),q];simp⟩) (fun m hm=>?_) ?_ I.bare
   .obtain ⟨f0,f1,f2,f3,f4,f5⟩:=hf b hb;exact ⟨f3,f1,f4,f5⟩
   .obtain ⟨o,es,ep,hoL,r⟩:=hm;exact ⟨o,es,ep,kk _ o (fun z=>(hf e (by simp)).2.1 z.symm) (fun z=>(hf it (by simp)).2.1 z.symm) hoL,r⟩
   .intro b u' q
    by_cases hb:b=s.heap.objs.size
    .subst hb;rw[zbu] at q;cases q;exact ⟨by show 2<=sizeLine;decide,[.int i s.toks,u],.cons ⟨_,rfl⟩ (.cons ru .nil),⟨_,hT'',rfl,_,rfl⟩⟩
    .rw[zaB hb] at q;refine (I.hok b u' q).stay (fun c v hcc qq=>kk c v ?_ ?_ qq) (fun c qq=>by rw[zaB (zbg qq hfresh)];exact qq) fun c ys qq=>by rw[zaB (zbg qq hfresh)];exact qq
     .rcases hcc with z | z
      .rw[z];exact (nfp b u' q).1
      .exact (nfp c _ z).1
     .rcases hcc with z | z
      .rw[z];exact (nfp b u' q).2
      .exact (nfp c _ z).2
  refine ⟨.ref s.heap.objs.size,_,J,rfl,⟨_,x,rfl,hfresh,rfl,fun ys hy=>by rw[I.list_inj hy hq];exact hx⟩,⟨⟨_,by simpa using he''⟩,hit''⟩,fun b hb=>?_⟩;rw[zaB]
  .exact (hf b hb).1
  .rcases List.mem_cons.mp hb with z | hb
   .rw[z];exact Nat.ne_of_lt helt
   .have z:b=it:=by simpa using hb
    rw[z];obtain ⟨o3,ho3,_⟩:=hit;exact Nat.ne_of_lt (Heap.lt_size ho3)
 done:=by
  intro X hP hw hK hc i pins s σ H E I hf st hg;subst hP hw hK;obtain ⟨⟨old,he⟩,hit⟩:=st;obtain ⟨xs,hq,hx⟩:=hg;obtain ⟨its,rv,p,hz⟩:=I.list hq;have hl:=rv.length;obtain ⟨f0,f1,f2,f3,f4,f5⟩:=hf it (by simp);exact wpAny_pyNext_enum_end (I.ok.hd hc) he hit p.isList (by simp;omega) fun h' eb=>⟨rfl,I.turned (t':=s.toks) (fun b o hb q=>eb b o hb q) f0 f1 f3 f4 f5⟩
 self:=fun _ _ _ _ _ st h=>by
  obtain ⟨⟨old,he⟩,_⟩:=st;exact wpAny_pyIter_enum he h
theorem Turn.imp {P:Program} {w:World} {K:PySem.W.Frag} {tg:Expr} {J J':It} {fp:List Addr} {it:Addr} {tn:Nat->Heap->Prop} (T:Turn P w K tg J fp it tn)
  (hg:∀i H,J'.go i H->J.go i H) (hy:∀i H x H',J'.go i H->J.yld i H x H'->J'.yld i H x H') (hs:∀i H,J'.stop i H->J.stop i H):Turn P w K tg J' fp it tn where
 mem:=T.mem
 obj:=T.obj
 keep:=T.keep
 item:=fun X a b c d i pins s σ H E I hf st go=>thn (T.item X a b c d i pins s σ H E I hf st (hg i H go)) fun r s1 ⟨u,e,h⟩=>⟨u,e,thn h fun _ s2 ⟨x,H',I',r',y,z⟩=>⟨x,H',I',r',hy i H x H' go y,z⟩⟩
 done:=fun X a b c d i pins s σ H E I hf st stop=>T.done X a b c d i pins s σ H E I hf st (hs i H stop)
 self:=T.self
def ItL (a:Addr):It:=⟨fun i H=>∃xs x,H a=some (.lst xs)/\xs[i]? = some x,fun i H x H'=>H'=H/\∀xs,H a=some (.lst xs)->xs[i]? = some x,fun i H=>∃xs,H a=some (.lst xs)/\xs.length<=i⟩
def ItE (l:Addr):It:=
 ⟨fun i H=>∃xs x,H l=some (.lst xs)/\xs[i]? = some x,fun i H v H'=>∃t x,v=.ref t/\H t=none/\H'=upd H t (.tup [.int i,x])/\∀xs,H l=some (.lst xs)->xs[i]? = some x,fun i H=>∃xs,H l=some (.lst xs)/\xs.length<=i⟩
theorem zm3 {P:Program} {w:World} {K:PySem.W.Frag} {tg:Expr} (a it:Addr):Turn P w K tg (ItL a) [it] it (fun i h=>h.IsListIter it a i):=
 (zjg (K:=K) a it).imp (fun i H ⟨xs,x,h,e⟩=>⟨xs,x,SqL.of h,e⟩) (fun i H x H' _ ⟨e,y⟩=>⟨e,fun xs h=>y xs (SqL.of h)⟩) (fun i H ⟨xs,h,e⟩=>⟨xs,SqL.of h,e⟩)
theorem znn {P:Program} {w:World} {K:PySem.W.Frag} {elts:List Expr} {k:Nat} {tp:Pos} (l e it:Addr) (hne:e≠it):Turn P w K (.Tuple elts k tp) (ItE l) [e,it] e (fun i h=>(∃old,IsEnum h e it i old)/\h.IsListIter it l i):=
 (zjK (K:=K) l e it hne).imp (fun i H ⟨xs,x,h,e⟩=>⟨xs,x,SqL.of h,e⟩) (fun i H x H' _ ⟨t,z,h1,h2,h3,y⟩=>⟨t,z,h1,h2,h3,fun xs h=>y xs (SqL.of h)⟩) (fun i H ⟨xs,h,e⟩=>⟨xs,SqL.of h,e⟩)
def iE (ta:TA):TI:=fun σ H R=>ta σ H fun vs H1=>∃l xs,vs=[.ref l]/\H1 l=some (.lst xs)/\R (ItE l) H1
theorem pi_E {a:Expr} {ta:TA} {p pos:Pos} {elts:List Expr} {k:Nat} {tp:Pos} (hg:Gl X "enumerate") (hm:X.mg "enumerate"=none) (ha:PA X [a] ta) (hs:starEach [a] X.env=[(false,eval a X.env)]:=by rfl) :
  PI X (.Tuple elts k tp) (.Call (.Name "enumerate" p) [a] [] pos) (iE ta):=by
 intro pins s σ H R I h;refine Call_ (zfx I hg hm boot_enumerate (PyProof.Rows.callWith_type1 (thn (ha pos pins s σ H _ I h) fun us s1 ⟨vs,H1,I1,r1,q1⟩=>?_) hs rfl));obtain ⟨l,xs,e,hq,q⟩:=q1;subst e;obtain ⟨u,rfl,ru⟩:=zhb r1;cases ru;obtain ⟨its,rv,pl,hz⟩:=I1.list (SqL.of hq);refine call_enumerate_list pl.isList fun h' he hit hsz hk=>?_
 have I2:Inv X pins σ H1 { s1 with heap:=h' }:=I1.kept (t':=s1.toks) hk;refine wpAny_pyIter_enum (s:={ s1 with heap:=h' }) he ?_;refine ⟨s1.heap.objs.size+1,[s1.heap.objs.size+1,s1.heap.objs.size],_,ItE l,H1,rfl,I2,znn l _ _ (Nat.ne_of_gt (Nat.lt_succ_self _)),⟨⟨_,by simpa using he⟩,hit⟩,fun b hb=>?_,q⟩;have hge:s1.heap.objs.size<=b:=by
  rcases List.mem_cons.mp hb with z | hb
  .rw[z];exact Nat.le_succ _
  .have z:b=s1.heap.objs.size:=by simpa using hb
   rw[z];exact Nat.le_refl _
 exact I1.fpOk hge (I1.hok.fresh hge)
end
section
variable {X:Cx}
def zh8 (i j:Int):Prop:=0 < j/\j < 2 ^ 200
theorem zks:OpR X (binaryOp .FloorDiv) (rI zh8 fun i j=>.int (i / j)):=opI fun i j _ _ _ _ _ hc q=>by
 have h1:(0:Int) < j:=hc.1;have h2:j < 2 ^ 200:=hc.2;refine floordiv_int (by omega) (by rw[Int.fdiv_eq_ediv_of_nonneg i (by omega)];exact q) (.inl (PyProof.noPylong_of_log2 ?_));have h3:j.natAbs < 2 ^ 200:=by omega
 have h4:j.natAbs≠0:=by omega
 exact Nat.lt_trans ((Nat.log2_lt h4).mpr h3) (by decide)
theorem zlQ {i:Int} {j:Nat} {p pos:Pos}:PE X (.UnaryOp .USub (.Constant (.int i) j p) pos) (tC (.int (-i))):=by
 intro pins s σ H Q I h;exact znb un_neg zkV pins s σ H Q I ⟨i,rfl,h⟩
theorem zgw {x:Str} {n:Int} {pos:Pos} (hg:Gl X x) (h:∃t,X.mg x=some (.int n t)) (hd:(x==("__debug__":Str))=false:=by decide +kernel):PE X (.Name x pos) (tC (.int n)):=by
 obtain ⟨t,h⟩:=h;exact zlc hg h ⟨t,rfl⟩ hd
end
theorem zis {P:Program} {w:World} {K:PySem.W.Frag} {mg:Str->Option Value} {base:Heap} {x:Str} {st:Stmt} {N ps:List Str} {k:Nat} {sp:Sp} (d:∃f fd,Fun K x x st f fd/\mg x=some (.ref f))
  (hb:∀(kV doc pm:Value) (an:Option Addr) (cdv ct:Value) (us:List Value),us.length=ps.length->bindArgs (PySem.W.fnOf x x (zdh st) (zb3 st) (zak st) .none kV doc pm an cdv ct) ⟨us,[]⟩=pure (ps.zip us))
  (S:zaw N ps (zak st)) (len:∀vs H Q E,sp vs H Q E->vs.length=ps.length)
  (hbody:∀(f:Addr) (cdv:Value) (A:Around) (outer:List Env) (s:Shared) (H:Hp) (vs:List V) (Q:VK) (E:XK),Room k (A.deeper (envOfC x (zak st) s.heap.objs.size f cdv))->sp vs H Q E->
   ∃t,PSs (cxOf CX0 P w K mg base N x (zak st) f cdv A outer s H E).nox (zb3 st) t/\t { nx:=fun _ H'=>Q .non H',rt:=Q } (start N vs) H):zhM P w K mg base x ps (k+1) sp:=by
 obtain ⟨f,fd,F,hm⟩:=d;refine ⟨f,fd,hm,F.kp,F.binds hb,F.ok S len fun cdv A outer s H vs Q E hr h=>hbody f cdv A outer s H vs Q E hr h, ?_⟩;obtain ⟨oc,od,_,_,_,_,_,_,osl,_,lk,_⟩:=F.ex;exact ⟨oc,od,osl,lk⟩
theorem zo8 {P:Program} {w:World} {K:PySem.W.Frag} {mg:Str->Option Value} {x p:Str} {st:Stmt} {k:Nat} {sp:Sp} {fa:Addr} (d:∃f fd,Fun K x x st f fd/\mg x=some (.ref f))
  (hb:∀(kV doc pm:Value) (an:Option Addr) (cdv ct u:Value),bindArgs (PySem.W.fnOf x x (zdh st) (zb3 st) (zak st) .none kV doc pm an cdv ct) ⟨[u],[]⟩=pure [(p,u)])
  (C:∀base,zhM P w K mg base x [p] k sp) (hmg:mg x=some (.ref fa)) :
  ∃fd:FuncData,(∀(s:Shared) (u:Value),BindsTo s fd ⟨[u],[]⟩ [(p,u)])/\∀base:Heap,K.In base->base.Ns mainGlobals mg->FnOk P w K mg base CX0 k fa fd [p] sp:=by
 obtain ⟨f,fd,F,hm⟩:=d;rw[hmg] at hm;cases hm;refine ⟨fd,fun s u=>?_,fun base _ _=>?_⟩
 .obtain ⟨oc,od,kV,doc,pm,an,cdv,ct,osl,rfl,lk,hcd⟩:=F.ex;exact .of_eq (hb kV doc pm an cdv ct u)
 .obtain ⟨f',fd',h1,_,_,h4,oc',od',osl',lk'⟩:=(C base).ex;rw[hmg] at h1;cases h1;obtain ⟨oc,od,_,_,_,_,_,_,osl,_,lk,_⟩:=F.ex;rw[lk'] at lk;cases lk;exact h4
section
variable {js:List (Option Nat)} {g:TG} {tt:TT} {te:TE} {σ:St} {H:Hp} {Q:VK}
end
end L2
namespace L2
open PySem PySem.Spec PySem.Calls PySem.W PyProof.Rows
structure XCls (K:Frag) (C:Addr):Prop where
 ga:findIn K (.ref C) "__getattribute__"=some (some (.builtin "BaseException.__getattribute__"))
 gn:findIn K (.ref C) "__getattr__"=some none
 cl:findIn K (.ref C) "__class__"=some (some (.builtin "object.__class__"))
 sb:subIn K (.ref C) (.type "BaseException")=some true
 so:subIn K (.ref C) (.type "object")=some true
 is:(clsIn K C).isSome=true
 ex:excIn K C [.type "ValueError",.type "Exception",.type "BaseException",.type "object"] "ValueError.__new__"=true
section
variable {prog:Program} {w:World} {A:Around} {E:Value->Shared->Prop} {h:Heap} {g:Array GenState} {d:Drawn} {t:Nat} {os:OsState} {a C:Addr} {o:Obj} {K:Frag}
def XAt (a C:Addr) (h:Heap):Prop:=∃o,h.get? a=some o/\o.cls=.ref C
end
structure FlyU (P:Program) (w:World) (base:Heap) (l:List Env) (H H':Hp) (h B h':Heap):Prop where
 st:base.StaysIn B
 al:∀b o,h.get? b=some o->b∉frs l->∃o',B.get? b=some o'
 kp:∀b o,h.get? b=some o->H b=none->b∉frs l->B.get? b=some o
 tr:∀b u,H' b=some u->∃o,B.get? b=some o
 un:Un (frs l) [] H H' h h'
 ok:HOk P w H' h'
def CXF (P:Program) (w:World) (base:Heap):CXT:=fun outer H s E e s'=>
 ∃(ea:Addr) (cls a0:Value) (H':Hp) (B:Heap),e=.ref ea/\s'.os=s.os/\AllBare s'.gens/\FlyU P w base outer H H' s.heap B s'.heap/\Heap.FlyingW B outer ea cls a0 s'.heap/\E cls none H'
theorem zfs {h base:Heap} {l:List Env} (f:h.FunFrames base l) {b:Addr} (hb:b∈frs l):base.get? b=none/\∃o,h.get? b=some o/\∀vs,o.data≠.fields vs:=f.mem hb
theorem FlyU.step {P:Program} {w:World} {base:Heap} {l:List Env} {H H':Hp} {h B h1 h2:Heap} (F:FlyU P w base l H H' h B h1) (s1:B.StaysIn h1) (s2:B.StaysIn h2) (up:h1.UpToSlots h2) (fr:h1.FunFrames B l) :
  FlyU P w base l H H' h B h2:=by
 refine ⟨F.st,F.al,F.kp,F.tr,⟨fun b o e n hb _=>s2 b o (F.kp b o e n hb),fun b o e n hb hx=>?_,F.un.free,fun b o e hx=>?_,F.un.tups,F.un.frzs,F.un.tbls⟩,fun a o e=>?_⟩
 .obtain ⟨sl,e1⟩:=F.un.slot b o e n hb hx;obtain ⟨_,o',e2,nf⟩:=zfs fr hb;rw[e1] at e2;cases e2;obtain ⟨sl',e3⟩:=up b _ e1 nf;exact ⟨sl',e3⟩
 .by_cases hb:b∈frs l
  .obtain ⟨_,o',e2,nf⟩:=zfs fr hb;obtain ⟨sl',e3⟩:=up b _ e2 nf;exact ⟨_,e3⟩
  .obtain ⟨o',e'⟩:=F.al b o e hb;exact ⟨o',s2 b o' e'⟩
 .refine (F.ok a o e).stay (fun b u hb q=>?_) (fun _ q=>q) fun _ _ q=>q
  have ht:∃v,H' b=some v:=by
   rcases hb with rfl | hb
   .exact ⟨o,e⟩
   .exact ⟨_,hb⟩
  obtain ⟨v,hv⟩:=ht;obtain ⟨o',e'⟩:=F.tr b v hv;have z:=s1 b o' e';rw[q] at z;cases z;exact s2 b u e'
section
variable {X:Cx} {pins:List (Addr×Obj)} {σ:St} {H:Hp} {s:Shared}
def XeIs (X:Cx) (E:XK):Prop:=X.xe=fun e s'=>wpAny (model X.prog X.w) X.A (leaving X.env e) (fun _ s''=>CXF X.prog X.w X.base X.outer X.H₀ X.s₀ E e s'') (fun e' s''=>CXF X.prog X.w X.base X.outer X.H₀ X.s₀ E e' s'') s'
theorem zbd {E:XK} (hs:X.stack=X.env::X.outer) (hf:X.env.frame=some X.env.locals) (hx:X.ex=[]) (xe:XeIs X E):zge (CXF X.prog X.w X.base) X E:=by
 intro pins σ H s e s' I h;obtain ⟨ea,cls,a0,H',B,rfl,os,ba,F,fl,q⟩:=h;unfold XeIs at xe;rw[xe];rw[hs] at fl F;refine wpAny_leaves_onW (by rw[I.ok.frames,hs]) hf fl fun h' f1 f2=>?_
 refine ⟨ea,cls,a0,H',B,rfl,os.trans I.os,ba, ?_,f1,q⟩;have nx:∀b:Addr,b∉X.ex:=fun b z=>by rw[hx] at z;cases z
 have nofr:∀b o,X.s₀.heap.get? b=some o->b∉frs X.outer->b∉frs (X.env::X.outer):=fun b o e hb hb'=>by
  rw[<-hs] at hb';rcases List.mem_cons.mp (I.stkSub b hb') with z | z
  .exact absurd (z ▸ Heap.lt_size e) (Nat.not_lt.mpr I.ok.above)
  .exact hb z
 have G:=F.step fl.1 f1.1 f2 fl.2.2.1;have base:Un X.fs [] X.H₀ H X.s₀.heap s.heap:=by have q:=I.base;rw[hx] at q;exact q
 have sub:∀b∈X.fs,b∈frs (X.env::X.outer):=fun b hb=>by
  obtain ⟨v,hv,z⟩:=List.mem_filterMap.mp hb;exact List.mem_filterMap.mpr ⟨v,List.mem_cons_of_mem _ hv,z⟩
 have all:Un (frs (X.env::X.outer)) [] X.H₀ H' X.s₀.heap h':=(base.mono sub fun _ z=>z).trans G.un;refine ⟨F.st,fun b o e hb=>?_,fun b o e n hb=>?_,F.tr,⟨fun b o e n hb hx'=>all.keep b o e n (nofr b o e hb) hx',fun b o e n hb hx'=>all.slot b o e n (sub b hb) hx',all.free,all.there,all.tups,all.frzs,all.tbls⟩,G.ok⟩
 .obtain ⟨o',e'⟩:=base.there b o e (by simp);exact F.al b o' e' (nofr b o e hb)
 .exact F.kp b o (base.keep b o e n hb (by simp)) (base.free b o e n (by simp)) (nofr b o e hb)
end
section
variable {X:Cx}
end
section
variable {X:Cx} {pins:List (Addr×Obj)} {σ:St} {H:Hp} {s:Shared}
end
section
variable {X:Cx}
structure ziY (P:Program) (w:World) (K:PySem.W.Frag) (mg:Str->Option Value) (base:Heap) (x:Str) (ps:List Str) (k:Nat) (sp:Sp):Prop where
 ex:∃(f:Addr) (fd:FuncData),mg x=some (.ref f)/\PySem.W.keepIn K (.ref f)=true/\Binds K fd ps []/\FnOk P w K mg base (CXF P w base) k f fd ps sp
end
section
variable {X:Cx}
end
section
variable {js:List (Option Nat)} {g:TG} {tt:TT} {te:TE} {σ:St} {H:Hp} {Q:VK}
end
section
variable {X:Cx} {pins:List (Addr×Obj)} {σ:St} {H:Hp} {s:Shared}
end
theorem zil {P:Program} {w:World} {K:PySem.W.Frag} {mg:Str->Option Value} {base:Heap} {x:Str} {st:Stmt} {N ps:List Str} {k:Nat} {sp:Sp} (d:∃f fd,Fun K x x st f fd/\mg x=some (.ref f))
  (hb:∀(kV doc pm:Value) (an:Option Addr) (cdv ct:Value) (us:List Value),us.length=ps.length->bindArgs (PySem.W.fnOf x x (zdh st) (zb3 st) (zak st) .none kV doc pm an cdv ct) ⟨us,[]⟩=pure (ps.zip us))
  (S:zaw N ps (zak st)) (len:∀vs H Q E,sp vs H Q E->vs.length=ps.length)
  (hbody:∀(f:Addr) (cdv:Value) (A:Around) (outer:List Env) (s:Shared) (H:Hp) (vs:List V) (Q:VK) (E:XK),Room k (A.deeper (envOfC x (zak st) s.heap.objs.size f cdv))->sp vs H Q E->
   ∃t,PSs (cxOf (CXF P w base) P w K mg base N x (zak st) f cdv A outer s H E) (zb3 st) t/\t { nx:=fun _ H'=>Q .non H',rt:=Q } (start N vs) H):ziY P w K mg base x ps (k+1) sp:=by
 obtain ⟨f,fd,F,hm⟩:=d;refine ⟨f,fd,hm,F.kp,F.binds hb, ?_⟩;obtain ⟨oc,od,kV,doc,pm,an,cdv,ct,osl,rfl,lk,hcd⟩:=F.ex;exact zm9 lk hcd S len fun A outer s H vs Q E hr hsp=>hbody f cdv A outer s H vs Q E hr hsp
def xOk (K:Frag) (top x:Str) (others:List Str):Bool:=match nsIn K mainGlobals x with
 | some (some (.ref C))=>
  (findIn K (.ref C) "__getattribute__"==some (some (.builtin "BaseException.__getattribute__")))&&(findIn K (.ref C) "__getattr__"==some none)&&(findIn K (.ref C) "__class__"==some (some (.builtin "object.__class__"))) &&
  (subIn K (.ref C) (.type "BaseException")==some true)&&(subIn K (.ref C) (.type "object")==some true)&&(clsIn K C).isSome&&excIn K C [.type "ValueError",.type "Exception",.type "BaseException",.type "object"] "ValueError.__new__" &&
  (match nsIn K mainGlobals top with | some (some (.ref R))=>exmOne K (.ref C) (.ref R)==some true | _=>false)&&(kitOne K (.ref C) (.type "ValueError")==some true) &&
  others.all (fun y=>match nsIn K mainGlobals y with | some (some (.ref D))=>kitOne K (.ref C) (.ref D)==some (y==x) | _=>false)
 | _=>false
end L2
namespace L2
open PySem PySem.W
end L2
namespace L2
open PySem
section
variable {X:Cx} {st:Stmt} {l:List Stmt} {t u:TS}
end
end L2
namespace L2
open PySem PySem.W PySem.Calls PyProof.Rows
def hdS (w:World) (os:OsState):Shared:=⟨boot_heap w.params,Array.mk [],boot_drawn,boot_toks,os⟩
def hdF {α β:Type} (run:(String->Option PySem.Builtin)->Program->World->Nat->Option Value->Nat->Shared->Thread->Option Shared) (tt:String->Option PySem.Builtin) (im:List Stmt->List Str)
  (sn:Program->List Str->List Str->(Shared->Bool)->Bool->Shared->α) (p q:Program) (loose:List Str) (Xt:Shared->Bool) (Yf:Shared->β) (N:Nat) (w:World) (os:OsState):Option (Bool×α×β):=
 (run tt p w 11 ((boot_heap w.params).nsMap mainGlobals "__annotations__") N (hdS w os) (topStub p)).map fun s=>((staticsOk (im p.main.body) (hdS w os).heap s.heap&&namesBound p s.heap&&gensDone s&&laidKept (hdS w os).heap s.heap),sn q loose (im p.main.body) Xt true s,Yf s)
theorem zlT (P:Params):(((boot_heap P).isNs mainGlobals&&(Array.mk []:Array GenState).size==0,(boot_heap P).objs.size):Bool×Nat)=(true,11):=by kernel_rfl
theorem zkn {β:Type} {p q:Program} {loose:List Str} {Xt:Shared->Bool} {Yf:Shared->β} {Ya:World->β} {N:Nat} (hN:Nat.ble 600 N=true)
  (e:opening p=plainProg p.main.scope.names) (f:∀s,fenceModules? p s=some s)
  (h:∀w os,hdF topRun treeTable importedModules openSeen p q loose Xt Yf N w os=some (true,openGood q loose,Ya w)):LeftO p q loose Xt Yf Ya N:=fun w=>by
 obtain ⟨⟨h0,gs,d,k,os⟩,e1,e'⟩:=Option.map_eq_some_iff.mp (boot_open e hN f w);obtain ⟨rfl,rfl,rfl,rfl⟩:h0=boot_heap w.params/\gs=Array.mk []/\d=boot_drawn/\k=boot_toks:=by simpa using e'
 obtain ⟨s,r,x⟩:=Option.map_eq_some_iff.mp (h w os);obtain ⟨x1,x2⟩:=Prod.mk.inj x;have z:=zlT w.params;obtain ⟨z1,z2⟩:=Prod.mk.inj z;have t:topFrom treeTable p w N (hdS w os)=some s:=by
  unfold topFrom;have z1':((hdS w os).heap.isNs mainGlobals&&(hdS w os).gens.size==0)=true:=z1;have z2':(hdS w os).heap.objs.size=11:=z2;have z3':(hdS w os).heap.nsMap mainGlobals "__annotations__"=(boot_heap w.params).nsMap mainGlobals "__annotations__":=rfl;rw[z1',z2',z3',r]
  show (match staticsOk (importedModules p.main.body) (hdS w os).heap s.heap&&namesBound p s.heap&&gensDone s&&laidKept (hdS w os).heap s.heap with | true=>_ | false=>_)=_
  rw[x1]
 unfold openEnds;rw[e1]
 show (topFrom treeTable p w N (hdS w os)).map _=_
 rw[t];exact congrArg some x2
def zeh:Nat->List Obj->Frag
 | _,[]=>[]
 | n,o::r=>match o with
  | ⟨_,_,.freed,_⟩=>zeh (n+1) r
  | o=>(n,o)::zeh (n+1) r
def zjE (h:Heap):Frag:=zeh 0 h.objs.toList
theorem zd4:∀(l:List Obj) (n a:Nat) (o:Obj),(zeh n l).lookup a=some o->n<=a/\l[a - n]? = some o/\∀c d s,o≠⟨c,d,.freed,s⟩
 | [],_,_,_,h=>nomatch h
 | x::r,n,a,o,h=>by
  unfold zeh at h;split at h
  .obtain ⟨h1,h2,h3⟩:=zd4 r (n+1) a o h;refine ⟨by omega, ?_,h3⟩;rw[show a - n=(a - (n+1))+1 by omega];exact h2
  .rename_i hne;rw[List.lookup_cons] at h;split at h
   .rename_i q;obtain rfl:a=n:=by simpa using q
    cases h;exact ⟨Nat.le_refl _,by simp,fun c d s e=>hne c d s e⟩
   .obtain ⟨h1,h2,h3⟩:=zd4 r (n+1) a o h;refine ⟨by omega, ?_,h3⟩;rw[show a - n=(a - (n+1))+1 by omega];exact h2
theorem ziB (h:Heap):(zjE h).In h:=fun a o e=>by
 obtain ⟨_,h2,h3⟩:=zd4 _ _ _ _ e;have h4:h.objs[a]? = some o:=by simpa using h2
 unfold Heap.get?;rw[h4];obtain ⟨c,d,x,s⟩:=o
 cases x<;>first | rfl | exact absurd rfl (h3 _ _ _)
def ziW (v:Value) (n:Str):Bool:=match v with | .str s _=>Fast.sEq s n | _=>false
theorem zgh (v:Value) (n:Str):v.isStr n=ziW v n:=by
 cases v with
 | str s t=>
  show (s==n)=Fast.sEq s n
  cases h:Fast.sEq s n with
  | true=>exact beq_iff_eq.mpr (Fast.sEq_iff.mp h)
  | false=>exact beq_eq_false_iff_ne.mpr fun e=>by rw[Fast.sEq_iff.mpr e] at h;cases h
 | _=>rfl
def nsF (K:Frag) (ns:Addr) (name:Str):Option (Option Value):=match K.lookup ns with
 | some ⟨_,_,.dict es _,_⟩=>(match es.toList.find? (fun e=>ziW e.key name) with
   | some e=>some (some e.val)
   | none=>if es.toList.any (·.refKey) then none else some none)
 | _=>none
theorem zio (K:Frag) (ns:Addr) (name:Str):nsIn K ns name=nsF K ns name:=by
 unfold nsIn nsF;rw[show (fun e:DictEntry=>ziW e.key name)=fun e=>e.key.isStr name from funext fun e=>(zgh _ _).symm];rfl
def zen (s:Stmt):Str:=match s with
 | .FunctionDef n _ _ _ _ _ _ _ _ _=>n
 | _=>⟨#[]⟩
def zmy (s:Stmt):Pos:=match s with
 | .FunctionDef _ _ _ _ _ _ _ _ _ p=>p
 | _=>⟨0,0,0,0⟩
def zkw (fd:FuncData):FuncData:={ fd with kwdefaults:=.none,doc:=.none,pyModule:=.none,annotations:=none,code:=.none,closureTuple:=.none }
def zm8 (eq:Str->Str->Bool) (K:Frag) (cd:Value) (q:Str):Bool:=match cd with
 | .ref c=>(match K.lookup c with
   | some ⟨_,_,.fields vs,_⟩=>(match vs.toList with | _::.str n _::_=>eq n q | _=>false)
   | _=>false)
 | _=>false
theorem zkZ:Fast.sEq=fun a b=>a==b:=funext fun a=>funext fun b=>(zgh (.str a 0) b).symm
theorem zki (K:Frag) (cd:Value) (q:Str):zm8 Fast.sEq K cd q=codeIn K cd q:=by rw[zkZ];rfl
def zlU (K:Frag) (n:Str):Option FuncData:=match nsF K mainGlobals n with
 | some (some (.ref f))=>(match K.lookup f with
  | some ⟨_,_,.func fd,_⟩=>(match zm8 Fast.sEq K fd.code n with | true=>some (zkw fd) | false=>none)
  | _=>none)
 | _=>none
def zlO (st:Stmt):FuncData:=fnOf (zen st) (zen st) (zdh st) (zb3 st) (zak st) .none .none .none .none none .none .none
theorem zaY {K:Frag} {h:Heap} {mg:Str->Option Value} {n:Str} {st:Stmt} (X:K.In h) (G:h.Ns mainGlobals mg) (hn:zen st=n) (e:zlU K (zen st)=some (zlO st)):∃f fd,Fun K n n st f fd/\mg n=some (.ref f):=by
 subst hn;unfold zlU at e;split at e
 .rename_i f hf;split at e
  .rename_i oc od fd osl ho;split at e
   .rename_i hc;have hc':codeIn K fd.code (zen st)=true:=(zki _ _ _).symm.trans hc;refine ⟨f,fd,⟨?_, ?_⟩,mg_of X G ((zio _ _ _).trans hf)⟩
    .have e':=Option.some.inj e;obtain ⟨nm,qn,pa,bo,sc,gl,cl,de,kd,dc,pm,an,cd,ct,bi⟩:=fd;unfold zkw zlO fnOf at e';simp only[FuncData.mk.injEq] at e';obtain ⟨rfl,rfl,rfl,rfl,rfl,rfl,rfl,rfl,-,-,-,-,-,-,rfl⟩:=e';exact ⟨oc,od,kd,dc,pm,an,cd,ct,osl,rfl,ho,hc'⟩
    .simp only[keepIn,ho]
   .cases e
  .cases e
 .cases e
def zlf (K:Frag) (n:Str):Bool:=match nsF K mainGlobals n with | some none=>true | _=>false
def zjG (K:Frag) (n:Str):Option Int:=match nsF K mainGlobals n with | some (some (.int i _))=>some i | _=>none
theorem zdy {K:Frag} {h:Heap} {mg:Str->Option Value} {n:Str} (X:K.In h) (G:h.Ns mainGlobals mg) (e:zlf K n=true):mg n=none:=by
 unfold zlf at e;split at e
 .rename_i q;exact mg_none_of X G ((zio _ _ _).trans q)
 .cases e
theorem zfK {K:Frag} {h:Heap} {mg:Str->Option Value} {n:Str} {i:Int} (X:K.In h) (G:h.Ns mainGlobals mg) (e:zjG K n=some i):∃t,mg n=some (.int i t):=by
 unfold zjG at e;split at e
 .rename_i j t q;cases e;exact ⟨t,mg_of X G ((zio _ _ _).trans q)⟩
 .cases e
abbrev ObsT:=List (Option FuncData)×List Bool×List (Option Int)×List Bool
def obs (fs:List Stmt) (bs:List Str) (cs:List Str) (xs:List (Str×Str×List Str)) (K:Frag):ObsT:=
 (fs.map fun s=>zlU K (zen s),bs.map (zlf K),cs.map (zjG K),xs.map fun x=>xOk K x.1 x.2.1 x.2.2)
def due (fs:List Stmt) (bs:List Str) (is:List Int) (xs:List (Str×Str×List Str)):ObsT:=(fs.map fun s=>some (zlO s),bs.map fun _=>true,is.map some,xs.map fun _=>true)
theorem zaE {A B:Type} {f g:A->B} {l:List A} (e:l.map f=l.map g) (i:Nat) {a:A} (h:l[i]? = some a):f a=g a:=by
 have:=congrArg (fun z=>z[i]?) e
 simpa [h] using this
theorem zfA {f:Str->Option Int} {l:List Str} {is:List Int} (e:l.map f=is.map some) (i:Nat) {a:Str} {x:Int} (h:l[i]? = some a) (h2:is[i]? = some x):f a=some x:=by
 have:=congrArg (fun z=>z[i]?) e
 simpa [h,h2] using this
def zeR (O:Frag->ObsT) (D:ObsT):Hook:=
 ⟨ObsT,fun s=>O (zjE s.heap),fun _=>D,fun _ h=>∃K:Frag,K.In h/\O K=D,fun _ s e=>⟨_,ziB s.heap,e⟩,fun _ _ _ x k=>let ⟨K,a,b⟩:=x;⟨K,a.keeps k,b⟩⟩
theorem zka {l:PySem.W.OpenLaw} {n k:Nat} {q:Program} {loose:List Str} {XP:(Str->Option Value)->Heap->Prop} {d:DefRec} {O:Frag->ObsT} {D:ObsT} {CX:CXT} {sp:PySem.W.Frag->Sp} {x:Str}
  (hn:l.most=some n) (hn2:n<=sizeLine) (hdf:d.params.defaults=[]) (hr:Room k callerA)
  (F:∀(w:World) (K:Frag) (mg:Str->Option Value) (fa:Addr) (h:Heap),K.In h->h.Ns mainGlobals mg->O K=D->mg d.name=some (.ref fa)->
   ∃fd:FuncData,(∀(s:Shared) (u:Value),BindsTo s fd ⟨[u],[]⟩ [(x,u)])/\
    ∀base:Heap,K.In base->base.Ns mainGlobals mg->FnOk l.prog w K mg base CX k fa fd [x] (sp K))
  (hsp:∀(K:PySem.W.Frag) (H:Hp) (a:Addr) (ns:List Int),ns.length<=n->Only H->SqL K H a (ns.map V.int)->sp K [.ref a] H (fun v _=>v=.bl true) fun _ _ _=>False)
  (hCX:∀(H:Hp) (s:Shared) (e:Value) (s':Shared),CX [] H s (fun _ _ _=>False) e s'->False) :
  PySem.W.WalkO q loose XP (zeR O D).says l.row.toRowW d [] (fun f vs=>PySem.call f vs):=by
 refine Att.zg6 hn hdf fun w s₀ s₁ mg mb fa o pm cd doc a vs ns G Y ho hd hcd hmg hobj hints hlen hg=>?_
 obtain ⟨K,KX,e⟩:=Y;obtain ⟨fd,hb,hF⟩:=F w K mg fa _ KX G.T.g e hmg;exact zj0 KX G.T.g G.T.b G.T.builtins G.T.nolimit hg hobj hints (Nat.le_trans hlen hn2) hr hF hb (fun H hO hS=>hsp K H a ns hlen hO hS) fun H e s'=>hCX H s₁ e s'
end L2
namespace L2
open PySem PySem.Spec PySem.Calls PySem.W PyProof.Rows
section
variable {X:Cx}
end
section
variable {K:Frag} {mg:Str->Option Value} {top:Str} {xs ys:List Str}
end
end L2
namespace L2
open PySem PySem.W PySem.Calls PyProof.Rows
def topT (tb:String->Option Builtin) (p:Program) (w:World) (ann:Option Value):Nat->SharedT->Thread->Option SharedT
 | 0,_,_=>none
 | n+1,s,t=>match through t with
  | true=>some s
  | false=>match stepOk 11 ann t with
   | false=>none
   | true=>match stepT (denote tb) p w s t with
    | some (s',t')=>topT tb p w ann n s' t'
    | none=>none
theorem ziQ {tb:String->Option Builtin} {p:Program} {w:World} {ann:Option Value}:∀{n:Nat} {s s':SharedT} {t:Thread},topT tb p w ann n s t=some s'->topRun tb p w 11 ann n s.abs t=some s'.abs
 | 0,_,_,_,h=>by cases h
 | n+1,s,s',t,h=>by
  unfold topT at h;unfold topRun
  cases he:through t with
  | true=>rw[he] at h;cases h;rfl
  | false=>
   rw[he] at h
   cases hk:stepOk 11 ann t with
   | false=>rw[hk] at h;cases h
   | true=>
    rw[hk] at h
    cases hs:stepT (denote tb) p w s t with
    | none=>rw[hs] at h;cases h
    | some r=>obtain ⟨s₂,t₂⟩:=r;rw[hs] at h;rw[stepT_spec hs];exact ziQ h
def zkA:List Obj->Nat->BT->BT
 | [],_,t=>t
 | o::r,n,t=>zkA r (n+1) (t.ins n o)
def hdST (w:World) (os:OsState):SharedT:=⟨zkA (boot_heap w.params).objs.toList 0 .nil,11,(boot_heap w.params).life,Array.mk [],boot_drawn,boot_toks,os⟩
theorem zmF (w:World) (os:OsState):(hdST w os).abs=hdS w os:=by
 show Shared.mk (absHeap _ 11 _) _ _ _ _=Shared.mk _ _ _ _ _
 congr 1
def hdT {α β:Type} (run:(String->Option PySem.Builtin)->Program->World->Option Value->Nat->SharedT->Thread->Option SharedT) (tt:String->Option PySem.Builtin) (im:List Stmt->List Str)
  (sn:Program->List Str->List Str->(Shared->Bool)->Bool->Shared->α) (p q:Program) (loose:List Str) (Xt:Shared->Bool) (Yf:Shared->β) (N:Nat) (w:World) (os:OsState):Option (Bool×α×β):=
 (run tt p w ((boot_heap w.params).nsMap mainGlobals "__annotations__") N (hdST w os) (topStub p)).map fun s=>((staticsOk (im p.main.body) (hdS w os).heap s.abs.heap&&namesBound p s.abs.heap&&gensDone s.abs&&laidKept (hdS w os).heap s.abs.heap),sn q loose (im p.main.body) Xt true s.abs,Yf s.abs)
theorem zmP {α β:Type} {tt:String->Option PySem.Builtin} {im:List Stmt->List Str} {sn:Program->List Str->List Str->(Shared->Bool)->Bool->Shared->α} {p q:Program} {loose:List Str} {Xt:Shared->Bool} {Yf:Shared->β} {N:Nat} {w:World} {os:OsState} {x:Bool×α×β}
  (h:hdT topT tt im sn p q loose Xt Yf N w os=some x):hdF topRun tt im sn p q loose Xt Yf N w os=some x:=by
 obtain ⟨s,r,e⟩:=Option.map_eq_some_iff.mp h;have r':=ziQ r;rw[zmF] at r';unfold hdF;rw[r',<-e];rfl
end L2
lay_quick L2.topT
namespace My
open PySem L2
lay_quick PySem.Challenge.pw_tautroads_k34_so_many_roads
def QQ (p:Program):Program:=PySem.W.view p [1,2,3,4,5,7,8,9,10,11,12,13,14,16,17,18,20,22,23,24,25,27,28,29,30,31,32,33,34,35,36,37,38,39,40,41,42,43,44,45]
def lo:List Str:=["MOST_LENGTH"]
def lv:List (Str×PySem.W.WData):=[("MOST_LENGTH",PySem.W.WData.int 1000000000)]
def Xt (p:Program) (s:Shared):Bool:=PySem.W.xlAt (QQ p) lv s&&PySem.W.recOk [] s
def stm (p:Program) (i:Nat):Stmt:=p.main.body.getD i (.Pass ⟨0,0,0,0⟩)
def fs (p:Program):List Stmt:=[stm p 27,stm p 29,stm p 28,stm p 30,stm p 31,stm p 34,stm p 37,stm p 41,stm p 39,stm p 40,stm p 42,stm p 43,stm p 38,stm p 10,stm p 11,stm p 12,stm p 13,stm p 14,stm p 16,stm p 17,stm p 18,stm p 20,stm p 23,stm p 24,stm p 25,stm p 32,stm p 33,stm p 35,stm p 36,stm p 44,stm p 45]
def bs:List Str:=["bool","enumerate","int","isinstance","len","list","max","range","reversed","sum","tuple"]
def cs:List Str:=["MOST_LENGTH","MOST_PLACES","MOST_ROADS","MOST_STEPS"]
def is:List Int:=[1000000000,20,60,60]
def xs:List (Str×Str×List Str):=[]
abbrev oo (p:Program):PySem.W.Frag->L2.ObsT:=L2.obs (fs p) bs cs xs
abbrev dd (p:Program):L2.ObsT:=L2.due (fs p) bs is xs
def znp {α:Type} (gd:Program->List Str->α) (run:(String->Option PySem.Builtin)->Program->World->Option Value->Nat->PySem.W.SharedT->Thread->Option PySem.W.SharedT) (tt:String->Option PySem.Builtin) (im:List Stmt->List Str) (sn:Program->List Str->List Str->(Shared->Bool)->Bool->Shared->α) (p:Program):Prop:=
 ∀(w:World) (os:OsState),L2.hdT run tt im sn p (QQ p) lo (Xt p) (fun s=>oo p (L2.zjE s.heap)) 4286 w os=some (true,gd (QQ p) lo,dd p)
theorem znV:znp PySem.W.openGood PySem.W.Fast.tw12425933026755589441 PySem.W.Fast.tw14364793385576792824 PySem.W.Fast.tw5923862056798008813 PySem.W.Fast.tw4187177175401517315 PySem.W.Fast.tw3383808368290430666:=fun w os=>by
 unfold L2.hdT
 kernel_rfl
theorem seen:znp PySem.W.openGood L2.topT treeTable importedModules PySem.W.openSeen PySem.Challenge.pw_tautroads_k34_so_many_roads:=by
 rw[PySem.W.Fast.te12425933026755589441,PySem.W.Fast.te14364793385576792824,PySem.W.Fast.te5923862056798008813,PySem.W.Fast.te4187177175401517315,PySem.W.Fast.te3383808368290430666];exact znV
theorem left:PySem.W.LeftO PySem.Challenge.pw_tautroads_k34_so_many_roads (QQ PySem.Challenge.pw_tautroads_k34_so_many_roads) lo (Xt PySem.Challenge.pw_tautroads_k34_so_many_roads) (L2.zeR (oo PySem.Challenge.pw_tautroads_k34_so_many_roads) (dd PySem.Challenge.pw_tautroads_k34_so_many_roads)).obs (L2.zeR (oo PySem.Challenge.pw_tautroads_k34_so_many_roads) (dd PySem.Challenge.pw_tautroads_k34_so_many_roads)).val 4286:=
 L2.zkn (by decide) (by kernel_rfl) (fun s=>by kernel_rfl) fun w os=>L2.zmP (seen w os)
end My
namespace L2
open PySem
set_option genInjectivity true
inductive O where
 | z
 | d (x:PyData)
 | l (xs:List O)
 | t (xs:List O)
 | x (c:Str)
 | g (o:HO)
 | q (xs:List V)
 deriving Inhabited
mutual
def fz:O->Option PyData
 | .d x=>some x
 | .l xs=>(fzs xs).map PyData.list
 | .t xs=>(fzs xs).map PyData.tuple
 | .z=>none
 | .x _=>none
 | .g _=>none
 | .q _=>none
def fzs:List O->Option (List PyData)
 | []=>some []
 | o::os=>match fz o,fzs os with
  | some a,some b=>some (a::b)
  | _,_=>none
end
theorem zn8:∀xs:List PyData,fzs (xs.map O.d)=some xs
 | []=>by simp[fzs]
 | x::xs=>by simp[fzs,fz,zn8 xs]
def sub:List Nat->O->Option O
 | [],o=>some o
 | k::p,.l xs=>match xs[k]? with | some o=>sub p o | none=>none
 | k::p,.t xs=>match xs[k]? with | some o=>sub p o | none=>none
 | _::_,_=>none
def put:List Nat->O->O->O
 | [],n,_=>n
 | k::p,n,.l xs=>.l (match xs[k]? with | some o=>xs.set k (put p n o) | none=>xs)
 | k::p,n,.t xs=>.t (match xs[k]? with | some o=>xs.set k (put p n o) | none=>xs)
 | _::_,_,o=>o
abbrev Rho:=List O
inductive Rv where
 | own (o:O)
 | at (i:Nat) (p:List Nat)
 deriving Inhabited
def vw (ρ:Rho):Rv->Option O
 | .own o=>some o
 | .at i p=>match ρ[i]? with | some o=>sub p o | none=>none
def vn (ρ:Rho) (r:Rv):Option O:=match vw ρ r with | some .z=>none | o=>o
def pok (ρ:Rho) (q:Bool):Rv->Bool
 | .own _=>true
 | .at _ []=>true
 | .at i (k::p)=>q&&(vw ρ (.at i (k::p))).isSome
inductive Re (α:Type) where
 | bad
 | ok (a:α) (ρ:Rho) (q:Bool)
 | ex (c:Str) (ρ:Rho)
def Re.bind {α β:Type}:Re α->(α->Rho->Bool->Re β)->Re β
 | .bad,_=>.bad
 | .ok a ρ q,f=>f a ρ q
 | .ex c ρ,_=>.ex c ρ
@[simp] theorem Re.bind_bad {α β:Type} (f:α->Rho->Bool->Re β):Re.bind .bad f=.bad:=rfl
@[simp] theorem Re.bind_ok {α β:Type} (a:α) (ρ:Rho) (q:Bool) (f:α->Rho->Bool->Re β):Re.bind (.ok a ρ q) f=f a ρ q:=rfl
@[simp] theorem Re.bind_ex {α β:Type} (c:Str) (ρ:Rho) (f:α->Rho->Bool->Re β):Re.bind (.ex c ρ) f=.ex c ρ:=rfl
abbrev EF:=Rho->Re Rv
abbrev TF:=Rho->Re Bool
abbrev AF:=Rho->Re (List Rv)
inductive Rt where
 | bad
 | nx (ρ:Rho)
 | br (ρ:Rho)
 | ct (ρ:Rho)
 | rt (o:O) (ρ:Rho)
 | ex (c:Str) (ρ:Rho)
abbrev SF:=Rho->Rt
inductive Rc where
 | bad
 | ok (o:O) (outs:List O)
 | ex (c:Str) (outs:List O)
abbrev FC:=List O->Rc
def coe (ρ:Rho):Rv->Option (O×Rho)
 | .own o=>some (o,ρ)
 | .at i p=>match ρ[i]? with
  | none=>none
  | some oi=>match sub p oi with
   | some (.d x)=>some (.d x,ρ)
   | some (.x c)=>some (.x c,ρ)
   | some (.g o)=>some (.g o,ρ)
   | some (.q o)=>some (.q o,ρ)
   | some o=>match fz oi,fz o with
    | some xi,some x=>some (.d x,ρ.set i (.d xi))
    | _,_=>none
   | none=>none
def mov (ρ:Rho):Rv->Option (O×Rho)
 | .own o=>some (o,ρ)
 | .at i []=>match ρ[i]? with
  | some .z=>none
  | some o=>some (o,ρ.set i .z)
  | none=>none
 | .at i (k::p)=>coe ρ (.at i (k::p))
def QOk (K:PySem.W.Frag) (H:Hp) (W:Addr->Prop) (a:Addr) (xs:List V):Prop:=(Rd H a (.lst xs)/\¬W a)\/
  ∃(o:Obj) (its:Array Value) (n:Nat),K.lookup a=some o/\o.cls=.type "list"/\o.dict=none/\o.data=.seq its n/\its.size<=sizeLine/\Vals xs its.toList
theorem QOk.sq {K:PySem.W.Frag} {H:Hp} {W:Addr->Prop} {a:Addr} {xs:List V} (h:QOk K H W a xs):SqL K H a xs:=h.imp (fun z=>z.1) id
section
variable (mg:Str->Option Value) (K:PySem.W.Frag)
mutual
inductive Ow (H:Hp) (W:Addr->Prop):V->O->List Addr->Prop where
 | z (v:V):Ow H W v .z []
 | d {v:V} {x:PyData}:Dn H W v x->Ow H W v (.d x) []
 | l {a:Addr} {vs:List V} {os:List O} {As:List Addr}:H a=some (.lst vs)->Ows H W vs os As->Ow H W (.ref a) (.l os) (a::As)
 | t {a:Addr} {vs:List V} {os:List O} {As:List Addr}:¬W a->H a=some (.tup vs)->Ows H W vs os As->Ow H W (.ref a) (.t os) As
 | x {a C:Addr} {c:Str}:¬W a->H a=some (.ext (XAt a C))->XCls K C->mg c=some (.ref C)->Ow H W (.ref a) (.x c) []
 | g {a:Addr} {o:HO}:¬W a->H a=some o->Ow H W (.ref a) (.g o) []
 | q {a:Addr} {xs:List V}:QOk K H W a xs->Ow H W (.ref a) (.q xs) []
inductive Ows (H:Hp) (W:Addr->Prop):List V->List O->List Addr->Prop where
 | nil:Ows H W [] [] []
 | cons {v:V} {o:O} {vs:List V} {os:List O} {A B:List Addr}:Ow H W v o A->Ows H W vs os B->Ows H W (v::vs) (o::os) (A++B)
end
end
section
variable {mg:Str->Option Value} {K:PySem.W.Frag} {H H':Hp} {W W':Addr->Prop}
theorem Ows.length {vs:List V} {os:List O} {As:List Addr} (h:Ows mg K H W vs os As):vs.length=os.length:=
 Ows.rec (motive_1:=fun _ _ _ _=>True) (motive_2:=fun vs os _ _=>vs.length=os.length) (fun _=>trivial) (fun _=>trivial) (fun _ _ _=>trivial) (fun _ _ _ _=>trivial) (fun _ _ _ _=>trivial) (fun _ _=>trivial) (fun _=>trivial) rfl (fun _ _ _ ih=>by rw[List.length_cons,List.length_cons,ih]) h
def DMv (H:Hp) (W:Addr->Prop) (H':Hp) (W':Addr->Prop):Prop:=∀a o,H a=some o->¬W a->H' a=some o/\¬W' a
theorem Dn.on (m:DMv H W H' W') {v:V} {d:PyData} (h:Dn H W v d):Dn H' W' v d:=h.mapX m
theorem Dns.on (m:DMv H W H' W') {v:List V} {d:List PyData} (h:Dns H W v d):Dns H' W' v d:=h.mapX m
theorem DMv.q (m:DMv H W H' W') {a:Addr} {xs:List V} (h:QOk K H W a xs):QOk K H' W' a xs:=by
 rcases h with ⟨h | ⟨o,h⟩,n⟩ | h
 .exact .inl ⟨.inl (m _ _ h n).1,(m _ _ h n).2⟩
 .exact .inl ⟨.inr ⟨o,(m _ _ h n).1⟩,(m _ _ h n).2⟩
 .exact .inr h
theorem Ow.on (m:DMv H W H' W') {v:V} {o:O} {As:List Addr} (h:Ow mg K H W v o As):(∀x∈As,H' x=H x)->Ow mg K H' W' v o As:=
 Ow.rec (motive_1:=fun v o As _=>(∀x∈As,H' x=H x)->Ow mg K H' W' v o As) (motive_2:=fun v o As _=>(∀x∈As,H' x=H x)->Ows mg K H' W' v o As)
  (fun v _=>.z v) (fun h _=>.d (h.on m)) (fun h _ ih e=>.l (by rw[e _ List.mem_cons_self];exact h) (ih fun x hx=>e x (List.mem_cons_of_mem _ hx))) (fun n h _ ih e=>.t (m _ _ h n).2 (m _ _ h n).1 (ih e)) (fun n h c g _=>.x (m _ _ h n).2 (m _ _ h n).1 c g)
  (fun n h _=>.g (m _ _ h n).2 (m _ _ h n).1) (fun h _=>.q (m.q h)) (fun _=>.nil) (fun _ _ i1 i2 e=>.cons (i1 fun x hx=>e x (List.mem_append_left _ hx)) (i2 fun x hx=>e x (List.mem_append_right _ hx))) h
theorem Ows.on (m:DMv H W H' W') {v:List V} {o:List O} {As:List Addr} (h:Ows mg K H W v o As):(∀x∈As,H' x=H x)->Ows mg K H' W' v o As:=
 Ows.rec (motive_1:=fun v o As _=>(∀x∈As,H' x=H x)->Ow mg K H' W' v o As) (motive_2:=fun v o As _=>(∀x∈As,H' x=H x)->Ows mg K H' W' v o As)
  (fun v _=>.z v) (fun h _=>.d (h.on m)) (fun h _ ih e=>.l (by rw[e _ List.mem_cons_self];exact h) (ih fun x hx=>e x (List.mem_cons_of_mem _ hx))) (fun n h _ ih e=>.t (m _ _ h n).2 (m _ _ h n).1 (ih e)) (fun n h c g _=>.x (m _ _ h n).2 (m _ _ h n).1 c g)
  (fun n h _=>.g (m _ _ h n).2 (m _ _ h n).1) (fun h _=>.q (m.q h)) (fun _=>.nil) (fun _ _ i1 i2 e=>.cons (i1 fun x hx=>e x (List.mem_append_left _ hx)) (i2 fun x hx=>e x (List.mem_append_right _ hx))) h
theorem dn_l {a:Addr} {vs:List V} {os:List O} {As:List Addr} (h:H a=some (.lst vs)) (_:Ows mg K H W vs os As) (ih:∀x,fzs os=some x->(∀x∈As,¬W' x)->Dns H W' vs x) (x:PyData) (e:fz (.l os)=some x) (n:∀x∈a::As,¬W' x):Dn H W' (.ref a) x:=by
 rw[fz] at e
 cases q:fzs os with
 | none=>rw[q] at e;cases e
 | some xs=>
  rw[q] at e;cases e;exact .lst (n _ List.mem_cons_self) h (ih xs q fun x hx=>n x (List.mem_cons_of_mem _ hx))
theorem dn_t (s:∀a,W' a->W a) {a:Addr} {vs:List V} {os:List O} {As:List Addr} (k:¬W a) (h:H a=some (.tup vs)) (_:Ows mg K H W vs os As) (ih:∀x,fzs os=some x->(∀x∈As,¬W' x)->Dns H W' vs x) (x:PyData) (e:fz (.t os)=some x) (n:∀x∈As,¬W' x):Dn H W' (.ref a) x:=by
 rw[fz] at e
 cases q:fzs os with
 | none=>rw[q] at e;cases e
 | some xs=>
  rw[q] at e;cases e;exact .tup (fun z=>k (s _ z)) h (ih xs q n)
theorem dn_c {v:V} {o:O} {vs:List V} {os:List O} {A B:List Addr} (_:Ow mg K H W v o A) (_:Ows mg K H W vs os B) (i1:∀x,fz o=some x->(∀x∈A,¬W' x)->Dn H W' v x) (i2:∀x,fzs os=some x->(∀x∈B,¬W' x)->Dns H W' vs x) (x:List PyData) (e:fzs (o::os)=some x) (n:∀x∈A++B,¬W' x):Dns H W' (v::vs) x:=by
 rw[fzs] at e
 cases q:fz o with
 | none=>rw[q] at e;cases e
 | some y=>
  cases r:fzs os with
  | none=>rw[q,r] at e;cases e
  | some ys=>
   rw[q,r] at e;cases e;exact .cons (i1 y q fun x hx=>n x (List.mem_append_left _ hx)) (i2 ys r fun x hx=>n x (List.mem_append_right _ hx))
theorem Ow.dn (s:∀a,W' a->W a) {v:V} {o:O} {As:List Addr} {x:PyData} (h:Ow mg K H W v o As) (e:fz o=some x) (n:∀x∈As,¬W' x):Dn H W' v x:=
 Ow.rec (motive_1:=fun v o As _=>∀x,fz o=some x->(∀x∈As,¬W' x)->Dn H W' v x) (motive_2:=fun v o As _=>∀x,fzs o=some x->(∀x∈As,¬W' x)->Dns H W' v x)
  (fun v x e _=>by rw[fz] at e;cases e) (fun h x e _=>by cases e;exact h.weak s) dn_l (dn_t s) (fun _ _ _ _ x e _=>by rw[fz] at e;cases e) (fun _ _ x e _=>by rw[fz] at e;cases e) (fun _ x e _=>by rw[fz] at e;cases e)
  (fun x e _=>by rw[fzs] at e;cases e;exact .nil) dn_c h _ e n
theorem Ow.plain {v:V} {o:O} {As:List Addr} {x:PyData} (h:Ow mg K H W v o As) (e:fz o=some x):Dn H (fun _=>False) v x:=h.dn (fun _ z=>z.elim) e fun _ _ z=>z
theorem Ows.ofD:∀{vs:List V} {ds:List PyData},Dns H W vs ds->Ows mg K H W vs (ds.map O.d) []
 | _,_,.nil=>.nil
 | _,_,.cons a b=>.cons (A:=[]) (.d a) (Ows.ofD b)
theorem Ows.toD:∀{vs:List V} {ds:List PyData} {As:List Addr},Ows mg K H W vs (ds.map O.d) As->Dns H W vs ds/\As=[]
 | _,[],_,h=>by cases h;exact ⟨.nil,rfl⟩
 | _,d::ds,_,h=>by
  cases h with
  | cons a b=>
   cases a with
   | d h=>obtain ⟨q,rfl⟩:=Ows.toD b;exact ⟨.cons h q,rfl⟩
theorem Ows.get:∀{vs:List V} {os:List O} {As:List Addr} {i:Nat} {o:O},Ows mg K H W vs os As->os[i]? = some o->∃v A,vs[i]? = some v/\Ow mg K H W v o A/\A.Sublist As
 | _,_,_,_,_,.nil,e=>by simp at e
 | _,_,_,0,_,.cons a b,e=>by simp at e;subst e;exact ⟨_,_,rfl,a,List.sublist_append_left _ _⟩
 | _,_,_,i+1,o,.cons a b,e=>by
  obtain ⟨v,A,h1,h2,h3⟩:=Ows.get (i:=i) (o:=o) b (by simpa using e);exact ⟨v,A,by simpa using h1,h2,h3.trans (List.sublist_append_right _ _)⟩
theorem Ows.app {vs ws:List V} {os us:List O} {A B:List Addr} (h:Ows mg K H W vs os A) (s:Ows mg K H W ws us B):Ows mg K H W (vs++ws) (os++us) (A++B):=
 Ows.rec (motive_1:=fun _ _ _ _=>True) (motive_2:=fun vs os A _=>Ows mg K H W (vs++ws) (os++us) (A++B)) (fun _=>trivial) (fun _=>trivial) (fun _ _ _=>trivial) (fun _ _ _ _=>trivial) (fun _ _ _ _=>trivial) (fun _ _=>trivial) (fun _=>trivial) s (fun a _ _ ih=>by rw[List.append_assoc];exact .cons a ih) h
def els:O->Option (Bool×List O)
 | .d (.list ds)=>some (true,ds.map O.d)
 | .d (.tuple ds)=>some (false,ds.map O.d)
 | .l os=>some (true,os)
 | .t os=>some (false,os)
 | _=>none
theorem Ow.els {v:V} {o:O} {As:List Addr} {k:Bool} {os:List O} (h:Ow mg K H W v o As) (e:els o=some (k,os)) :
  ∃a vs A,v=.ref a/\H a=some (if k then .lst vs else .tup vs)/\Ows mg K H W vs os A/\A.Sublist As:=by
 cases h with
 | z=>cases e
 | d h=>
  cases h with
  | lst n q t=>cases e;exact ⟨_,_,_,rfl,q,.ofD t,.refl _⟩
  | tup n q t=>cases e;exact ⟨_,_,_,rfl,q,.ofD t,.refl _⟩
  | _=>cases e
 | l q t=>cases e;exact ⟨_,_,_,rfl,q,t,List.sublist_cons_self _ _⟩
 | t n q t=>cases e;exact ⟨_,_,_,rfl,q,t,.refl _⟩
 | x=>cases e
 | g=>cases e
 | q=>cases e
def lds:List O->Option (List PyData)
 | []=>some []
 | .d x::os=>(lds os).map (x::·)
 | _=>none
theorem zfJ:∀xs:List PyData,lds (xs.map O.d)=some xs
 | []=>rfl
 | x::xs=>by simp[lds,zfJ xs]
theorem ziz:∀{os:List O} {ds:List PyData},lds os=some ds->os=ds.map O.d
 | [],ds,e=>by cases e;rfl
 | .d x::os,ds,e=>by
  rw[lds] at e
  cases q:lds os with
  | none=>rw[q] at e;cases e
  | some xs=>rw[q] at e;cases e;rw[ziz q];rfl
 | .z::_,_,e=>by cases e
 | .l _::_,_,e=>by cases e
 | .t _::_,_,e=>by cases e
 | .x _::_,_,e=>by cases e
 | .g _::_,_,e=>by cases e
 | .q _::_,_,e=>by cases e
end
section
variable {mg:Str->Option Value} {K:PySem.W.Frag} {H H':Hp} {W W':Addr->Prop}
def VAt (H:Hp):List Nat->V->V->Prop
 | [],v,u=>v=u
 | k::p,v,u=>∃a vs w,v=.ref a/\(H a=some (.lst vs)\/H a=some (.tup vs))/\vs[k]? = some w/\VAt H p w u
theorem Ow.sub {p:List Nat}:∀{v:V} {o n:O} {As:List Addr},Ow mg K H W v o As->sub p o=some n->∃u A,VAt H p v u/\Ow mg K H W u n A/\A.Sublist As:=by
 induction p with
 | nil=>intro v o n As h e;cases e;exact ⟨_,_,rfl,h,.refl _⟩
 | cons k p ih=>
  intro v o n As h e
  cases h with
  | @l a vs os As qq tt=>
   rw[L2.sub] at e
   cases r:os[k]? with
   | none=>rw[r] at e;cases e
   | some o=>
    rw[r] at e;obtain ⟨w,A,h1,h2,h3⟩:=tt.get r;obtain ⟨u,B,g1,g2,g3⟩:=ih h2 e;exact ⟨u,B,⟨_,_,_,rfl,.inl qq,h1,g1⟩,g2,g3.trans (h3.trans (List.sublist_cons_self _ _))⟩
  | @t a vs os As nw qq tt=>
   rw[L2.sub] at e
   cases r:os[k]? with
   | none=>rw[r] at e;cases e
   | some o=>
    rw[r] at e;obtain ⟨w,A,h1,h2,h3⟩:=tt.get r;obtain ⟨u,B,g1,g2,g3⟩:=ih h2 e;exact ⟨u,B,⟨_,_,_,rfl,.inr qq,h1,g1⟩,g2,g3.trans h3⟩
  | _=>cases e
theorem VAt.inj {p:List Nat}:∀{v u w:V},VAt H p v u->VAt H p v w->u=w:=by
 induction p with
 | nil=>intro v u w h k;exact h.symm.trans k
 | cons k p ih=>
  intro v u w h1 h2;obtain ⟨a,vs,x,e,h,q,r⟩:=h1;obtain ⟨b,ws,y,e',h',q',r'⟩:=h2;rw[e] at e'
  cases e'
  have:vs=ws:=by
   rcases h with h | h<;>rcases h' with h' | h'<;>rw[h] at h'<;>cases h'<;>rfl
  subst this;rw[q] at q'
  cases q'
  exact ih r r'
theorem VAt.app:∀{p q:List Nat} {v u w:V},VAt H p v u->VAt H q u w->VAt H (p++q) v w
 | [],_,_,_,_,h,k=>by rw[show _=_ from h];exact k
 | _::p,q,_,_,_,⟨a,vs,x,e,h,g,r⟩,k=>⟨a,vs,x,e,h,g,VAt.app r k⟩
theorem Ows.swap:∀{vs:List V} {os:List O} {As:List Addr} {k:Nat} {w:V} {o n:O} {A:List Addr},Ows mg K H W vs os As->As.Nodup->os[k]? = some o->vs[k]? = some w->
  (∀B:List Addr,Ow mg K H W w o B->List.Sublist B As->∃C:List Addr,Ow mg K H' W w n C/\C.Nodup/\(∀x∈C,x∈B\/x∈A)/\∀x,x∉B->H' x=H x)->(∀x∈A,x∉As)->DMv H W H' W->
  ∃C:List Addr,Ows mg K H' W vs (os.set k n) C/\C.Nodup/\(∀x∈C,x∈As\/x∈A)/\∃B:List Addr,B.Sublist As/\∀x,x∉B->H' x=H x
 | _,_,_,_,_,_,_,_,.nil,_,e,_,_,_,_=>by simp at e
 | _,_,_,0,_,_,n,A,.cons (A:=B) (B:=D) a b,nd,e,e',f,fr,m=>by
  simp at e e';subst e e';obtain ⟨C,h1,h2,h3,h4⟩:=f B a (List.sublist_append_left _ _);have nd':=List.nodup_append.mp nd;refine ⟨C++D,.cons h1 (Ows.on m b fun x hx=>h4 x fun hb=>nd'.2.2 x hb x hx rfl),List.nodup_append.mpr ⟨h2,nd'.2.1,fun x hx y hy z=>?_⟩,fun x hx=>?_,B,List.sublist_append_left _ _,h4⟩
  .subst z;rcases h3 x hx with q | q
   .exact nd'.2.2 x q x hy rfl
   .exact fr x q (List.mem_append_right _ hy)
  .rcases List.mem_append.mp hx with q | q
   .exact (h3 x q).imp (List.mem_append_left _) id
   .exact .inl (List.mem_append_right _ q)
 | _,_,_,k+1,w,o,n,A,.cons (A:=B) (B:=D) a b,nd,e,e',f,fr,m=>by
  have nd':=List.nodup_append.mp nd;obtain ⟨C,h1,h2,h3,E,h4,h5⟩:=Ows.swap (k:=k) (w:=w) (o:=o) (n:=n) (A:=A) b nd'.2.1 (by simpa using e) (by simpa using e') (fun F hF sF=>f F hF (sF.trans (List.sublist_append_right _ _))) (fun x hx hd=>fr x hx (List.mem_append_right _ hd)) m;refine ⟨B++C,.cons (Ow.on m a fun x hx=>h5 x fun hb=>nd'.2.2 x hx x (h4.subset hb) rfl) (by simpa using h1),List.nodup_append.mpr ⟨nd'.1,h2,fun x hx y hy z=>?_⟩,fun x hx=>?_,E,h4.trans (List.sublist_append_right _ _),h5⟩
  .subst z;rcases h3 x hy with q | q
   .exact nd'.2.2 x hx x q rfl
   .exact fr x q (List.mem_append_left _ hx)
  .rcases List.mem_append.mp hx with q | q
   .exact .inl (List.mem_append_left _ q)
   .exact (h3 x q).imp (List.mem_append_right _) id
theorem Ow.put {p:List Nat}:∀{v:V} {o:O} {As:List Addr} {os os':List O} {a:Addr} {vs':List V} {A:List Addr},Ow mg K H W v o As->As.Nodup->L2.sub p o=some (.l os)->VAt H p v (.ref a)->W a->
  (∀vs B,Ows mg K H W vs os B->H a=some (.lst vs)->B.Nodup->a∉B->(∀x∈B,x∈As)->∃C,Ows mg K (upd H a (.lst vs')) W vs' os' C/\C.Nodup/\a∉C/\∀x∈C,x∈B\/x∈A)->(∀x∈A,x∉As)->
  ∃C,Ow mg K (upd H a (.lst vs')) W v (L2.put p (.l os') o) C/\C.Nodup/\(∀x∈C,x∈As\/x∈A)/\a∈As:=by
 induction p with
 | nil=>
  intro v o As os os' a vs' A h nd e qq wa f fr;cases e
  cases (show _=V.ref a from qq)
  cases h with
  | l h tt=>
   have nd':=List.nodup_cons.mp nd;obtain ⟨C,h1,h2,h3,h4⟩:=f _ _ tt h nd'.2 nd'.1 fun x hx=>List.mem_cons_of_mem _ hx
   refine ⟨_,.l zbu h1,List.nodup_cons.mpr ⟨h3,h2⟩,fun x hx=>?_,List.mem_cons_self⟩;rcases List.mem_cons.mp hx with rfl | hx
   .exact .inl List.mem_cons_self
   .exact (h4 x hx).imp (List.mem_cons_of_mem _) id
 | cons k p ih=>
  intro v o Bs os os' a vs' A h nd e qq wa f fr;obtain ⟨b',ws',w,eb,hb,hw,qq⟩:=qq;have m:DMv H W (upd H a (.lst vs')) W:=fun c ob hc nc=>⟨by rw[zaB (fun z=>nc (by rw[z];exact wa))];exact hc,nc⟩
  cases h with
  | @l b ws us As h tt=>
   cases eb;rcases hb with hb | hb<;>rw[h] at hb<;>cases hb;rw[L2.sub] at e;rw[L2.put]
   cases r:us[k]? with
   | none=>rw[r] at e;cases e
   | some o=>
    rw[r] at e;have nd':=List.nodup_cons.mp nd;have sub1:∀{B:List Addr},Ow mg K H W w o B->B.Sublist As->∃C,Ow mg K (upd H a (.lst vs')) W w (L2.put p (.l os') o) C/\C.Nodup/\(∀x∈C,x∈B\/x∈A)/\a∈B:=fun hB sB=>
     ih hB (nd'.2.sublist sB) e qq wa (fun vs B' x1 x2 x3 x4 x5=>f vs B' x1 x2 x3 x4 fun x hx=>List.mem_cons_of_mem _ (sB.subset (x5 x hx))) (fun x hx z=>fr x hx (List.mem_cons_of_mem _ (sB.subset z)))
    obtain ⟨w',A',g1,g2,g3⟩:=tt.get r;rw[hw] at g1;cases g1;have hin:a∈As:=by
     obtain ⟨C,h1,h2,h3,h4⟩:=sub1 g2 g3;exact g3.subset h4
    obtain ⟨C,h1,h2,h3,E,h4,h5⟩:=Ows.swap (H':=upd H a (.lst vs')) (n:=L2.put p (.l os') o) (A:=A) tt nd'.2 r hw (fun B hB sB=>by
     obtain ⟨C,h1,h2,h3,h4⟩:=sub1 hB sB;exact ⟨C,h1,h2,h3,fun x hx=>zaB fun z=>hx (z ▸ h4)⟩) (fun x hx z=>fr x hx (List.mem_cons_of_mem _ z)) m
    refine ⟨_::C,.l (by rw[zaB (show b'≠a from fun z=>nd'.1 (z ▸ hin))];exact h) h1,List.nodup_cons.mpr ⟨fun z=>?_,h2⟩,fun x hx=>?_,List.mem_cons_of_mem _ hin⟩
    .rcases h3 _ z with z | z
     .exact nd'.1 z
     .exact fr _ z List.mem_cons_self
    .rcases List.mem_cons.mp hx with rfl | hx
     .exact .inl List.mem_cons_self
     .exact (h3 x hx).imp (List.mem_cons_of_mem _) id
  | @t b ws us As nw h tt=>
   cases eb;rcases hb with hb | hb<;>rw[h] at hb<;>cases hb;rw[L2.sub] at e;rw[L2.put]
   cases r:us[k]? with
   | none=>rw[r] at e;cases e
   | some o=>
    rw[r] at e;have sub1:∀{B:List Addr},Ow mg K H W w o B->B.Sublist Bs->∃C,Ow mg K (upd H a (.lst vs')) W w (L2.put p (.l os') o) C/\C.Nodup/\(∀x∈C,x∈B\/x∈A)/\a∈B:=fun hB sB=>
     ih hB (nd.sublist sB) e qq wa (fun vs B' x1 x2 x3 x4 x5=>f vs B' x1 x2 x3 x4 fun x hx=>sB.subset (x5 x hx)) (fun x hx z=>fr x hx (sB.subset z))
    obtain ⟨w',A',g1,g2,g3⟩:=tt.get r;rw[hw] at g1;cases g1;have hin:a∈Bs:=by
     obtain ⟨C,h1,h2,h3,h4⟩:=sub1 g2 g3;exact g3.subset h4
    obtain ⟨C,h1,h2,h3,E,h4,h5⟩:=Ows.swap (H':=upd H a (.lst vs')) (n:=L2.put p (.l os') o) (A:=A) tt nd r hw (fun B hB sB=>by
     obtain ⟨C,h1,h2,h3,h4⟩:=sub1 hB sB;exact ⟨C,h1,h2,h3,fun x hx=>zaB fun z=>hx (z ▸ h4)⟩) (fun x hx z=>fr x hx z) m
    exact ⟨C,.t nw (by rw[zaB (show b'≠a from fun z=>nw (by rw[z];exact wa))];exact h) h1,h2,h3,hin⟩
  | _=>cases e
end
abbrev Fp:=Nat->List Addr
def Inn (f:Fp) (x:Addr):Prop:=∃i,x∈f i
structure Fam (f:Fp):Prop where
 nd:∀i,(f i).Nodup
 ap:∀i j,i≠j->∀x,x∈f i->x∉f j
def fset (f:Fp) (i:Nat) (A:List Addr):Fp:=fun j=>if j=i then A else f j
theorem za8 {f:Fp} {i:Nat} {A:List Addr}:fset f i A i=A:=if_pos rfl
theorem zbs {f:Fp} {i j:Nat} {A:List Addr} (h:j≠i):fset f i A j=f j:=if_neg h
theorem Fam.set {f:Fp} {i:Nat} {A:List Addr} (h:Fam f) (nd:A.Nodup) (ap:∀x∈A,∀j,j≠i->x∉f j):Fam (fset f i A):=⟨fun j=>by
 by_cases e:j=i
 .subst e;rw[za8];exact nd
 .rw[zbs e];exact h.nd j,fun j k hjk x hx=>by
 by_cases e:j=i
 .subst e;rw[za8] at hx;rw[zbs hjk.symm];exact ap x hx k hjk.symm
 .rw[zbs e] at hx
  by_cases e':k=i
  .subst e';rw[za8];exact fun z=>ap x z j e hx
  .rw[zbs e'];exact h.ap j k hjk x hx⟩
theorem Inn.set {f:Fp} {i:Nat} {A:List Addr} {x:Addr} (h:Inn (fset f i A) x):Inn f x\/x∈A:=by
 obtain ⟨j,hj⟩:=h
 by_cases e:j=i
 .subst e;rw[za8] at hj;exact .inr hj
 .rw[zbs e] at hj;exact .inl ⟨j,hj⟩
structure Mv (A:Addr->Prop) (H:Hp) (W:Addr->Prop) (A':Addr->Prop) (H':Hp) (W':Addr->Prop):Prop where
 same:∀b o,H b=some o->¬A b->H' b=some o
 less:∀x,W' x->W x\/H x=none
 more:∀x,W x->A x\/W' x
 ours:∀x,A' x->A x\/H x=none
 sub:∀x,A x->W x
 dom:∀x,W x->H x≠none
 sub':∀x,A' x->W' x
 dom':∀x,W' x->H' x≠none
section
variable {A A1 A2 A':Addr->Prop} {H H1 H2 H':Hp} {W W1 W2 W':Addr->Prop}
theorem Mv.refl (s:∀x,A x->W x) (d:∀x,W x->H x≠none):Mv A H W A H W:=⟨fun _ _ h _=>h,fun _ h=>.inl h,fun _ h=>.inr h,fun _ h=>.inl h,s,d,s,d⟩
theorem Mv.trans (a:Mv A H W A1 H1 W1) (b:Mv A1 H1 W1 A2 H2 W2):Mv A H W A2 H2 W2:=by
 have k:∀x,H1 x=none->A x\/H x=none:=fun x h=>by
  cases q:H x with
  | none=>exact .inr rfl
  | some o=>
   by_cases hA:A x
   .exact .inl hA
   .rw[a.same x o q hA] at h;cases h
 refine ⟨fun x o h n=>b.same x o (a.same x o h n) fun z=>(a.ours x z).elim n fun q=>(by rw[h] at q;cases q),fun x h=>?_,fun x h=>?_,fun x h=>?_,a.sub,a.dom,b.sub',b.dom'⟩
 .rcases b.less x h with q | q
  .exact a.less x q
  .exact (k x q).imp (a.sub x) id
 .rcases a.more x h with q | q
  .exact .inl q
  .rcases b.more x q with r | r
   .exact (a.ours x r).imp id fun q=>absurd q (a.dom x h)
   .exact .inr r
 .rcases b.ours x h with q | q
  .exact a.ours x q
  .exact k x q
theorem Mv.d (m:Mv A H W A' H' W'):DMv H W H' W':=fun a o h n=>⟨m.same a o h fun z=>n (m.sub a z),fun z=>(m.less a z).elim n fun q=>by rw[h] at q;cases q⟩
theorem Mv.wide (m:Mv A H W A' H' W') (h:∀x,A x->A1 x) (s:∀x,A1 x->W x):Mv A1 H W A' H' W':=⟨fun b o e n=>m.same b o e fun z=>n (h b z),m.less,fun x w=>(m.more x w).imp (h x) id,fun x a=>(m.ours x a).imp (h x) id,s,m.dom,m.sub',m.dom'⟩
theorem Mv.narrow (m:Mv A H W A' H' W') (h:∀x,A1 x->A' x):Mv A H W A1 H' W':=⟨m.same,m.less,m.more,fun x a=>m.ours x (h x a),m.sub,m.dom,fun x a=>m.sub' x (h x a),m.dom'⟩
theorem Mv.hand (m:Mv A H W A' H' W') {x:Addr} (w:W x) (n:¬A x):W' x/\H' x=H x:=⟨(m.more x w).resolve_left n,by
 cases q:H x with
 | none=>exact absurd q (m.dom x w)
 | some o=>exact m.same x o q n⟩
theorem Mv.apart (m:Mv A H W A' H' W') {x:Addr} (w:W x) (n:¬A x):¬A' x:=fun z=>(m.ours x z).elim n (m.dom x w)
theorem Mv.put {p:Addr} {o:HO} (s:∀x,A x->W x) (d:∀x,W x->H x≠none) (h:A p):Mv A H W A (upd H p o) W:=
 ⟨fun b u e n=>by rw[zaB (fun z=>n (by rw[z];exact h))];exact e,fun _ h=>.inl h,fun _ h=>.inr h,fun _ h=>.inl h,s,d,s,fun x w=>by
  by_cases e:x=p
  .subst e;rw[zbu];exact fun z=>by cases z
  .rw[zaB e];exact d x w⟩
end
section
variable (mg:Str->Option Value) (K:PySem.W.Frag)
structure Sl (H:Hp) (W:Addr->Prop) (σ:St) (ρ:Rho) (f:Fp):Prop where
 sl:∀(i:Nat) (o:O),ρ[i]? = some o->(o=.z/\f i=[])\/∃v,σ[i]? = some (some v)/\Ow mg K H W v o (f i)
 no:∀i,ρ.length<=i->f i=[]
 len:ρ.length=σ.length
 fam:Fam f
structure Hd (H:Hp) (W:Addr->Prop) (vs:List V) (os:List O) (f:Fp):Prop where
 hd:∀(i:Nat) (o:O),os[i]? = some o->∃v,vs[i]? = some v/\Ow mg K H W v o (f i)
 no:∀i,os.length<=i->f i=[]
 len:vs.length=os.length
 fam:Fam f
def RvOk (H:Hp) (W:Addr->Prop) (σ:St) (v:V):Rv->List Addr->Prop
 | .own o,B=>Ow mg K H W v o B/\B.Nodup
 | .at i p,B=>B=[]/\∃u,σ[i]? = some (some u)/\VAt H p u v
end
section
variable {mg:Str->Option Value} {K:PySem.W.Frag} {A A':Addr->Prop} {H H':Hp} {W W':Addr->Prop} {σ σ':St} {ρ ρ':Rho} {f g:Fp}
theorem Sl.on (s:Sl mg K H W σ ρ f) (m:DMv H W H' W') (e:∀x,Inn f x->H' x=H x):Sl mg K H' W' σ ρ f:=
 ⟨fun i o h=>(s.sl i o h).imp id fun ⟨v,h1,h2⟩=>⟨v,h1,h2.on m fun x hx=>e x ⟨i,hx⟩⟩,s.no,s.len,s.fam⟩
theorem DMv.weak (h:∀x,W' x->W x):DMv H W H W':=fun a o e n=>⟨e,fun z=>n (h a z)⟩
theorem Sl.set {i:Nat} {o:O} {v:V} {B:List Addr} (s:Sl mg K H W σ ρ f) (hi:i < ρ.length) (h:Ow mg K H W v o B) (nd:B.Nodup) (ap:∀x∈B,∀j,j≠i->x∉f j):Sl mg K H W (σ.set i (some v)) (ρ.set i o) (fset f i B):=by
 refine ⟨fun j u e=>?_,fun j hj=>?_,by rw[List.length_set,List.length_set];exact s.len,s.fam.set nd ap⟩
 .by_cases q:j=i
  .subst q;rw[List.getElem?_set_self hi] at e;cases e;exact .inr ⟨v,by rw[List.getElem?_set_self (by rw[<-s.len];exact hi)],by rw[za8];exact h⟩
  .rw[List.getElem?_set_ne (Ne.symm q)] at e;rw[List.getElem?_set_ne (Ne.symm q),zbs q];exact s.sl j u e
 .rw[List.length_set] at hj;rw[zbs (by omega)];exact s.no j hj
theorem Sl.setS {i:Nat} {o:O} {v:V} {B:List Addr} (s:Sl mg K H W σ ρ f) (hi:σ[i]? = some (some v)) (h:Ow mg K H W v o B) (nd:B.Nodup) (ap:∀x∈B,∀j,j≠i->x∉f j):Sl mg K H W σ (ρ.set i o) (fset f i B):=by
 have hl:i < σ.length:=by
  by_cases q:i < σ.length
  .exact q
  .rw[List.getElem?_eq_none (by omega)] at hi;cases hi
 have:=s.set (i:=i) (v:=v) (by rw[s.len];exact hl) h nd ap
 have e:σ.set i (some v)=σ:=by
  apply List.ext_getElem?;intro j
  by_cases q:j=i
  .subst q;rw[List.getElem?_set_self hl,hi]
  .rw[List.getElem?_set_ne (Ne.symm q)]
 rw[e] at this;exact this
theorem Sl.setZ {i:Nat} (s:Sl mg K H W σ ρ f):Sl mg K H W σ (ρ.set i .z) (fset f i []):=by
 refine ⟨fun j u e=>?_,fun j hj=>?_,by rw[List.length_set];exact s.len,s.fam.set List.nodup_nil fun x hx=>nomatch hx⟩
 .by_cases q:j=i
  .subst q
   by_cases hl:j < ρ.length
   .rw[List.getElem?_set_self hl] at e;cases e;exact .inl ⟨rfl,za8⟩
   .rw[List.getElem?_eq_none (by rw[List.length_set];omega)] at e;cases e
  .rw[List.getElem?_set_ne (Ne.symm q)] at e;rw[zbs q];exact s.sl j u e
 .rw[List.length_set] at hj
  by_cases q:j=i
  .subst q;exact za8
  .rw[zbs q];exact s.no j hj
theorem Sl.vw {r:Rv} {v:V} {B:List Addr} {o:O} (s:Sl mg K H W σ ρ f) (h:RvOk mg K H W σ v r B) (e:vw ρ r=some o) (nz:o≠.z):∃C,Ow mg K H W v o C/\∀x∈C,Inn f x\/x∈B:=by
 cases r with
 | own u=>cases e;exact ⟨B,h.1,fun x hx=>.inr hx⟩
 | «at» i p=>
  obtain ⟨_,u,h1,h2⟩:=h;rw[L2.vw] at e
  cases q:ρ[i]? with
  | none=>rw[q] at e;cases e
  | some w=>
   rw[q] at e;rcases s.sl i w q with ⟨rfl,_⟩ | ⟨v',g1,g2⟩
   .cases p with
    | nil=>cases e;exact absurd rfl nz
    | cons k p=>cases e
   .rw[h1] at g1;cases g1;obtain ⟨u',C,k1,k2,k3⟩:=g2.sub e
    cases k1.inj h2
    exact ⟨C,k2,fun x hx=>.inl ⟨i,k3.subset hx⟩⟩
end
end L2
namespace L2
open PySem PySem.Spec PyProof.Rows
section
variable {mg:Str->Option Value} {K:PySem.W.Frag} {A A':Addr->Prop} {H H':Hp} {W W':Addr->Prop} {σ σ':St} {ρ ρ':Rho} {f g:Fp}
theorem VAt.on {p:List Nat}:∀{u v:V} {o n:O} {As:List Addr},Ow mg K H W u o As->VAt H p u v->sub p o=some n->(∀x∈As,H' x=H x)->DMv H W H' W'->VAt H' p u v:=by
 induction p with
 | nil=>intro u v o n As _ h _ _ _;exact h
 | cons k p ih=>
  intro u v o n As ow hv es hk m;obtain ⟨a,vs,w,e,h,q,r⟩:=hv
  cases ow with
  | @l b us os Bs h' tt=>
   cases e;have hv:vs=us:=by rcases h with h | h<;>rw[h] at h'<;>cases h'<;>rfl
   subst hv;rw[L2.sub] at es
   cases z:os[k]? with
   | none=>rw[z] at es;cases es
   | some o=>
    rw[z] at es;obtain ⟨w',A1,g1,g2,g3⟩:=tt.get z;rw[q] at g1;cases g1;exact ⟨_,vs,w,rfl,.inl ((hk _ List.mem_cons_self).trans h'),q,ih g2 r es (fun x hx=>hk x (List.mem_cons_of_mem _ (g3.subset hx))) m⟩
  | @t b us os Bs nw h' tt=>
   cases e;have hv:vs=us:=by rcases h with h | h<;>rw[h] at h'<;>cases h'<;>rfl
   subst hv;rw[L2.sub] at es
   cases z:os[k]? with
   | none=>rw[z] at es;cases es
   | some o=>
    rw[z] at es;obtain ⟨w',A1,g1,g2,g3⟩:=tt.get z;rw[q] at g1;cases g1;exact ⟨_,vs,w,rfl,.inr (m _ _ h' nw).1,q,ih g2 r es (fun x hx=>hk x (g3.subset hx)) m⟩
  | _=>cases es
theorem RvOk.on {r:Rv} {v:V} {B:List Addr} {q:Bool} (s:Sl mg K H W σ ρ f) (h:RvOk mg K H W σ v r B) (hB:∀x∈B,W x/\¬Inn f x) (m:Mv (Inn f) H W A' H' W') (hq:q=true->∀x,Inn f x->H' x=H x) (hp:pok ρ q r=true) :
  RvOk mg K H' W' σ v r B:=by
 cases r with
 | own o=>exact ⟨h.1.on m.d fun x hx=>(m.hand (hB x hx).1 (hB x hx).2).2,h.2⟩
 | «at» i p=>
  obtain ⟨e,u,h1,h2⟩:=h;refine ⟨e,u,h1, ?_⟩
  cases p with
  | nil=>exact h2
  | cons k p=>
   rw[pok,Bool.and_eq_true,vw] at hp
   cases z:ρ[i]? with
   | none=>rw[z] at hp;cases hp.2
   | some o=>
    rw[z] at hp;dsimp only at hp;rcases s.sl i o z with ⟨rfl,_⟩ | ⟨u',g1,g2⟩
    .cases hp.2
    .rw[h1] at g1;cases g1
     cases y:L2.sub (k::p) o with
     | none=>rw[y] at hp;cases hp.2
     | some n=>exact VAt.on g2 h2 y (fun x hx=>hq hp.1 x ⟨i,hx⟩) m.d
theorem zc0 {r:Rv} {o:O} (h:vn ρ r=some o):vw ρ r=some o/\o≠.z:=by
 unfold vn at h;split at h
 .cases h
 .rename_i h2;exact ⟨h,fun z=>h2 (by rw[h,z])⟩
end
section
variable (mg:Str->Option Value) (K:PySem.W.Frag) (E:XK)
structure Ok (H:Hp) (W:Addr->Prop) (σ:St) (ρ:Rho) (f:Fp):Prop where
 s:Sl mg K H W σ ρ f
 sub:∀x,Inn f x->W x
 dom:∀x,W x->H x≠none
def XW (c:Str) (H:Hp):Prop:=∃C,mg c=some (.ref C)/\XCls K C/\E (.ref C) none H
def kR (σ:St) (H:Hp) (W:Addr->Prop) (f:Fp) (Q:VK):Re Rv->Prop
 | .bad=>False
 | .ok r ρ' q=>∀v H' W' f' B,Sl mg K H' W' σ ρ' f'->RvOk mg K H' W' σ v r B->(∀x∈B,¬Inn f' x)->Mv (Inn f) H W (fun x=>Inn f' x\/x∈B) H' W'->(q=true->∀x,Inn f x->H' x=H x)->Q v H'
 | .ex c ρ'=>∀H' W' f',Sl mg K H' W' σ ρ' f'->Mv (Inn f) H W (Inn f') H' W'->XW mg K E c H'
def tR (G:EF):TE:=fun σ H Q=>∃W ρ f,Ok mg K H W σ ρ f/\kR mg K E σ H W f Q (G ρ)
def kG {α:Type} (σ:St) (H:Hp) (W:Addr->Prop) (f:Fp) (Q:α->Hp->Prop):Re α->Prop
 | .bad=>False
 | .ok b ρ' q=>∀H' W' f',Sl mg K H' W' σ ρ' f'->Mv (Inn f) H W (Inn f') H' W'->(q=true->∀x,Inn f x->H' x=H x)->Q b H'
 | .ex c ρ'=>∀H' W' f',Sl mg K H' W' σ ρ' f'->Mv (Inn f) H W (Inn f') H' W'->XW mg K E c H'
def tG {α:Type} (G:Rho->Re α):St->Hp->(α->Hp->Prop)->Prop:=fun σ H Q=>∃W ρ f,Ok mg K H W σ ρ f/\kG mg K E σ H W f Q (G ρ)
abbrev tT (G:TF):TT:=tG mg K E G
structure Rvs (H:Hp) (W:Addr->Prop) (σ:St) (vs:List V) (rs:List Rv) (g:Fp):Prop where
 rv:∀(k:Nat) (r:Rv),rs[k]? = some r->∃v,vs[k]? = some v/\RvOk mg K H W σ v r (g k)
 no:∀k,rs.length<=k->g k=[]
 len:vs.length=rs.length
 fam:Fam g
def kRs (σ:St) (H:Hp) (W:Addr->Prop) (f:Fp) (Q:List V->Hp->Prop):Re (List Rv)->Prop
 | .bad=>False
 | .ok rs ρ' q=>∀vs H' W' f' g,Sl mg K H' W' σ ρ' f'->Rvs mg K H' W' σ vs rs g->(∀x,Inn g x->¬Inn f' x)->Mv (Inn f) H W (fun x=>Inn f' x\/Inn g x) H' W'->(q=true->∀x,Inn f x->H' x=H x)->Q vs H'
 | .ex c ρ'=>∀H' W' f',Sl mg K H' W' σ ρ' f'->Mv (Inn f) H W (Inn f') H' W'->XW mg K E c H'
def tRs (G:AF):TA:=fun σ H Q=>∃W ρ f,Ok mg K H W σ ρ f/\kRs mg K E σ H W f Q (G ρ)
end
abbrev VR (X:Cx) (E:XK) (e:Expr) (G:EF):Prop:=PE X e (tR X.mg X.K E G)
abbrev VT (X:Cx) (E:XK) (e:Expr) (G:TF):Prop:=PT X e (tT X.mg X.K E G)
abbrev VA (X:Cx) (E:XK) (es:List Expr) (G:AF):Prop:=PA X es (tRs X.mg X.K E G)
theorem PE.imp {X:Cx} {e:Expr} {t t':TE} (h:PE X e t) (i:∀σ H Q,t' σ H Q->t σ H Q):PE X e t':=fun pins s σ H Q I q=>h pins s σ H Q I (i σ H Q q)
theorem PT.imp {X:Cx} {e:Expr} {t t':TT} (h:PT X e t) (i:∀σ H Q,t' σ H Q->t σ H Q):PT X e t':=fun pins s σ H Q I q=>h pins s σ H Q I (i σ H Q q)
theorem PA.imp {X:Cx} {e:List Expr} {t t':TA} (h:PA X e t) (i:∀σ H Q,t' σ H Q->t σ H Q):PA X e t':=fun pos pins s σ H Q I q=>h pos pins s σ H Q I (i σ H Q q)
def zab (i:Nat):EF:=fun ρ=>match ρ[i]? with
 | some .z=>.bad
 | some _=>.ok (.at i []) ρ true
 | none=>.bad
def eC (x:PyData):EF:=fun ρ=>.ok (.own (.d x)) ρ true
section
variable {X:Cx} {E:XK}
theorem Ok.refl {mg:Str->Option Value} {K:PySem.W.Frag} {H:Hp} {W:Addr->Prop} {σ:St} {ρ:Rho} {f:Fp} (o:Ok mg K H W σ ρ f):Mv (Inn f) H W (fun x=>Inn f x\/x∈([]:List Addr)) H W:=
 (Mv.refl o.sub o.dom).narrow fun x h=>h.resolve_right fun z=>nomatch z
theorem zaa {i:Nat} {x:Str} {pos:Pos} (h:PE X (.Name x pos) (tVar i)):VR X E (.Name x pos) (zab i):=h.imp fun σ H Q hx__=>by
 obtain ⟨W,ρ,f,ok,q⟩:=hx__;unfold zab at q
 cases e:ρ[i]? with
 | none=>rw[e] at q;exact False.elim q
 | some o=>
  rw[e] at q;rcases ok.s.sl i o e with ⟨rfl,_⟩ | ⟨v,h1,h2⟩
  .exact False.elim q
  .refine ⟨v,h1, ?_⟩
   have:=fun nz:o≠.z=>(show ∀v H' W' f' B,Sl X.mg X.K H' W' σ ρ f'->RvOk X.mg X.K H' W' σ v (.at i []) B->(∀x∈B,¬Inn f' x)->Mv (Inn f) H W (fun x=>Inn f' x\/x∈B) H' W'->(true=true->∀x,Inn f x->H' x=H x)->Q v H' from by cases o<;>first | exact q | exact absurd rfl nz) v H W f [] ok.s ⟨rfl,v,h1,rfl⟩ (fun x z=>nomatch z) ok.refl fun _ _ _=>rfl
   by_cases nz:o=.z
   .subst nz;exact False.elim q
   .exact this nz
theorem zay {e:Expr} {c:V} {x:PyData} (h:PE X e (tC c)) (d:∀H W,Dn H W c x):VR X E e (eC x):=h.imp fun σ H Q ⟨W,ρ,f,ok,q⟩=>
 q c H W f [] ok.s ⟨.d (d H W),List.nodup_nil⟩ (fun x z=>nomatch z) ok.refl fun _ _ _=>rfl
end
def e2 (A B:EF) (F:O->O->Option O):EF:=fun ρ=>(A ρ).bind fun ra ρ1 q1=>(B ρ1).bind fun rb ρ2 q2=>
 if pok ρ1 q2 ra then match vn ρ2 ra,vn ρ2 rb with
  | some x,some y=>match F x y with
   | some z=>.ok (.own z) ρ2 (q1&&q2)
   | none=>.bad
  | _,_=>.bad
 else .bad
structure Gr (H:Hp) (W:Addr->Prop) (B:List Addr) (H':Hp) (W':Addr->Prop):Prop where
 same:Same H H'
 fresh:∀x∈B,H x=none
 nd:B.Nodup
 w:∀x,W' x↔W x\/x∈B
 dom:∀x∈B,H' x≠none
theorem Gr.refl {H:Hp} {W:Addr->Prop}:Gr H W [] H W:=⟨Same.refl _,fun _ z=>(nomatch z),List.nodup_nil,fun x=>⟨.inl,fun h=>h.resolve_right fun z=>nomatch z⟩,fun _ z=>nomatch z⟩
theorem Gr.new {H:Hp} {W:Addr->Prop} {p:Addr} {o:HO} (h:H p=none):Gr H W [] (upd H p o) W:=⟨Same.new h,fun _ z=>(nomatch z),List.nodup_nil,fun x=>⟨.inl,fun h=>h.resolve_right fun z=>nomatch z⟩,fun _ z=>nomatch z⟩
theorem Gr.newO {H:Hp} {W:Addr->Prop} {p:Addr} {o:HO} (h:H p=none):Gr H W [p] (upd H p o) (fun x=>W x\/x∈[p]):=
 ⟨Same.new h,fun x z=>by rw[List.mem_singleton.mp z];exact h,List.nodup_cons.mpr ⟨fun z=>(nomatch z),List.nodup_nil⟩,fun _=>Iff.rfl,fun x z=>by rw[List.mem_singleton.mp z,zbu];exact fun z=>nomatch z⟩
theorem Gr.mv {A:Addr->Prop} {H H':Hp} {W W':Addr->Prop} {B:List Addr} (g:Gr H W B H' W') (s:∀x,A x->W x) (d:∀x,W x->H x≠none):Mv A H W (fun x=>A x\/x∈B) H' W':=
 ⟨fun b o e _=>g.same b o e,fun x h=>((g.w x).mp h).imp id (g.fresh x),fun x h=>.inr ((g.w x).mpr (.inl h)),fun x h=>h.imp id (g.fresh x),s,d,fun x h=>(g.w x).mpr (h.imp (s x) id),fun x h=>by
  rcases (g.w x).mp h with h | h
  .cases e:H x with
   | none=>exact absurd e (d x h)
   | some o=>rw[g.same x o e];exact fun z=>nomatch z
  .exact g.dom x h⟩
theorem Gr.kept {H H':Hp} {W W':Addr->Prop} {B:List Addr} (g:Gr H W B H' W') (d:∀x,W x->H x≠none) {x:Addr} (h:W x):H' x=H x:=by
 cases e:H x with
 | none=>exact absurd e (d x h)
 | some o=>exact g.same x o e
section
variable (mg:Str->Option Value) (K:PySem.W.Frag)
def rV2 (F:O->O->Option O):R2:=fun x y H Q=>∃W ox oy As Bs z,Ow mg K H W x ox As/\Ow mg K H W y oy Bs/\(∀x,W x->H x≠none)/\F ox oy=some z/\
 ∀v H' W' B,Gr H W B H' W'->Ow mg K H' W' v z B->Q v H'
def rV1 (F:O->Option O):V->Hp->VK->Prop:=fun x H Q=>∃W ox As z,Ow mg K H W x ox As/\(∀x,W x->H x≠none)/\F ox=some z/\
 ∀v H' W' B,Gr H W B H' W'->Ow mg K H' W' v z B->Q v H'
def rVs (F:List O->Option O):List V->Hp->VK->Prop:=fun xs H Q=>∃W os z,xs.length=os.length/\(∀(k:Nat) (o:O),os[k]? = some o->∃v As,xs[k]? = some v/\Ow mg K H W v o As)/\(∀x,W x->H x≠none)/\F os=some z/\
 ∀v H' W' B,Gr H W B H' W'->Ow mg K H' W' v z B->Q v H'
end
section
variable {mg:Str->Option Value} {K:PySem.W.Frag} {E:XK} {σ:St} {H:Hp}
theorem two {A B:EF} {R:V->V->Hp->Prop} {W:Addr->Prop} {ρ:Rho} {f:Fp} (ok:Ok mg K H W σ ρ f)
  (h:match A ρ with
   | .bad=>False
   | .ex c ρ'=>∀H' W' f',Sl mg K H' W' σ ρ' f'->Mv (Inn f) H W (Inn f') H' W'->XW mg K E c H'
   | .ok ra ρ1 q1=>match B ρ1 with
    | .bad=>False
    | .ex c ρ'=>∀H' W' f',Sl mg K H' W' σ ρ' f'->Mv (Inn f) H W (Inn f') H' W'->XW mg K E c H'
    | .ok rb ρ2 q2=>pok ρ1 q2 ra=true/\∀v u H' W' f' C D,Sl mg K H' W' σ ρ2 f'->RvOk mg K H' W' σ v ra C->RvOk mg K H' W' σ u rb D->(∀x∈C,¬Inn f' x)->(∀x∈D,¬Inn f' x)->(∀x∈C,x∉D)->
      Mv (Inn f) H W (fun x=>Inn f' x\/x∈C\/x∈D) H' W'->((q1&&q2)=true->∀x,Inn f x->H' x=H x)->R v u H') :
  tR mg K E A σ H fun x H1=>tR mg K E B σ H1 fun y H2=>R x y H2:=by
 refine ⟨W,ρ,f,ok, ?_⟩
 cases a:A ρ with
 | bad=>rw[a] at h;exact h
 | ex c ρ'=>rw[a] at h;exact h
 | ok ra ρ1 q1=>
  rw[a] at h;intro v H1 W1 f1 C s1 r1 n1 m1 k1;have ok1:Ok mg K H1 W1 σ ρ1 f1:=⟨s1,fun x hx=>m1.sub' x (.inl hx),m1.dom'⟩;refine ⟨W1,ρ1,f1,ok1, ?_⟩;have hC:∀x∈C,W1 x/\¬Inn f1 x:=fun x hx=>⟨m1.sub' x (.inr hx),n1 x hx⟩
  dsimp only at h
  cases b:B ρ1 with
  | bad=>rw[b] at h;exact h
  | ex c ρ'=>
   rw[b] at h;exact fun H2 W2 f2 s2 m2=>h H2 W2 f2 s2 (m1.trans (m2.wide (fun x hx=>.inl hx) m1.sub'))
  | ok rb ρ2 q2=>
   rw[b] at h;obtain ⟨hp,h⟩:=h;intro u H2 W2 f2 D s2 r2 n2 m2 k2;have m2':Mv (fun x=>Inn f1 x\/x∈C) H1 W1 (fun x=>Inn f2 x\/x∈C\/x∈D) H2 W2:=
    ⟨fun b o e n=>m2.same b o e fun z=>n (.inl z),m2.less,fun x w=>(m2.more x w).imp .inl id,fun x w=>by
     rcases w with w | w | w
     .exact (m2.ours x (.inl w)).imp .inl id
     .exact .inl (.inr w)
     .exact (m2.ours x (.inr w)).imp .inl id,m1.sub',m2.dom,fun x w=>by
     rcases w with w | w | w
     .exact m2.sub' x (.inl w)
     .exact (m2.hand (hC x w).1 (hC x w).2).1
     .exact m2.sub' x (.inr w),m2.dom'⟩
   refine h v u H2 W2 f2 C D s2 (r1.on s1 hC m2 k2 hp) r2 (fun x hx z=>m2.apart (hC x hx).1 (hC x hx).2 (.inl z)) n2 (fun x hx z=>m2.apart (hC x hx).1 (hC x hx).2 (.inr z)) (m1.trans m2') fun hq x hx=>?_
   rw[Bool.and_eq_true] at hq;have e1:=k1 hq.1 x hx;have w1:W1 x\/¬W1 x:=Classical.em _
   by_cases i1:Inn f1 x
   .exact (k2 hq.2 x i1).trans e1
   .cases e:H x with
    | none=>exact absurd e (ok.dom x (ok.sub x hx))
    | some o=>
     rw[e] at e1;exact m2.same x o e1 i1
end
section
variable {mg:Str->Option Value} {K:PySem.W.Frag} {A0:Addr->Prop} {H H' H'':Hp} {W W' W'':Addr->Prop} {σ:St} {ρ ρ':Rho} {f f' g:Fp} {B:List Addr}
theorem Gr.d (g:Gr H W B H' W'):DMv H W H' W':=fun a o e n=>⟨g.same a o e,fun z=>((g.w a).mp z).elim n fun q=>by rw[g.fresh a q] at e;cases e⟩
theorem Gr.fin (s:Sl mg K H' W' σ ρ' f') (m:Mv (Inn f) H W A0 H' W') (hA:∀x,Inn f' x->A0 x) (g:Gr H' W' B H'' W'') :
  Sl mg K H'' W'' σ ρ' f'/\(∀x∈B,¬Inn f' x)/\Mv (Inn f) H W (fun x=>Inn f' x\/x∈B) H'' W'':=by
 have hW:∀x,Inn f' x->W' x:=fun x hx=>m.sub' x (hA x hx)
 refine ⟨s.on g.d fun x hx=>g.kept m.dom' (hW x hx),fun x hx z=>m.dom' x (hW x z) (g.fresh x hx),(m.trans (g.mv m.sub' m.dom')).narrow fun x hx=>hx.imp (hA x) id⟩
theorem Gr.quiet (o:Ok mg K H W σ ρ f) (g:Gr H' W' B H'' W'') (k:∀x,Inn f x->H' x=H x):∀x,Inn f x->H'' x=H x:=fun x hx=>by
 cases e:H x with
 | none=>exact absurd e (o.dom x (o.sub x hx))
 | some u=>exact g.same x u ((k x hx).trans e)
end
section
variable {X:Cx} {E:XK}
theorem vr2 {A B:EF} {F:O->O->Option O} {σ:St} {H:Hp} {Q:VK} (h:tR X.mg X.K E (e2 A B F) σ H Q):tOp (rV2 X.mg X.K F) (tR X.mg X.K E A) (tR X.mg X.K E B) σ H Q:=by
 obtain ⟨W,ρ,f,ok,q⟩:=h;refine two ok ?_;unfold e2 at q
 cases a:A ρ with
 | bad=>rw[a] at q;exact q
 | ex c ρ'=>rw[a] at q;exact q
 | ok ra ρ1 q1=>
  rw[a] at q;dsimp only[Re.bind] at q ⊢
  cases b:B ρ1 with
  | bad=>rw[b] at q;exact q
  | ex c ρ'=>rw[b] at q;exact q
  | ok rb ρ2 q2=>
   rw[b] at q;dsimp only at q ⊢
   by_cases hp:pok ρ1 q2 ra=true
   .rw[if_pos hp] at q;refine ⟨hp,fun v u H' W' f' C D s r1 r2 n1 n2 n3 m k=>?_⟩
    cases e1:vn ρ2 ra with
    | none=>rw[e1] at q;exact False.elim q
    | some x=>
     cases e2:vn ρ2 rb with
     | none=>rw[e1,e2] at q;exact False.elim q
     | some y=>
      rw[e1,e2] at q;dsimp only at q
      cases e3:F x y with
      | none=>rw[e3] at q;exact False.elim q
      | some z=>
       rw[e3] at q;obtain ⟨a1,a2⟩:=zc0 e1;obtain ⟨b1,b2⟩:=zc0 e2;obtain ⟨_,o1,_⟩:=s.vw r1 a1 a2;obtain ⟨_,o2,_⟩:=s.vw r2 b1 b2;refine ⟨W',x,y,_,_,z,o1,o2,m.dom',e3,fun w H'' W'' B' g ow=>?_⟩;obtain ⟨g1,g2,g3⟩:=g.fin s m fun x hx=>.inl hx
       exact q w H'' W'' f' B' g1 ⟨ow,g.nd⟩ g2 g3 fun hq=>g.quiet ok (k hq)
   .rw[if_neg hp] at q;exact False.elim q
theorem zaS {op:Operator} {F:O->O->Option O} {a b:Expr} {A B:EF} {pos:Pos} (ho:OpR X (binaryOp op) (rV2 X.mg X.K F)) (ha:VR X E a A) (hb:VR X E b B):VR X E (.BinOp a op b pos) (e2 A B F):=
 (zoP ho ha hb).imp fun _ _ _ h=>vr2 h
theorem zeS {op:CmpOp} {F:O->O->Option O} {a b:Expr} {A B:EF} {pos:Pos} (ho:OpR X (compareOp op) (rV2 X.mg X.K F)) (ha:VR X E a A) (hb:VR X E b B) (hm:behindInMarks op b=false):VR X E (.Compare a [op] [b] pos) (e2 A B F):=
 (zlr ho ha hb hm).imp fun _ _ _ h=>vr2 h
def tst (G:EF):TF:=fun ρ=>match G ρ with
 | .bad=>.bad
 | .ex c ρ'=>.ex c ρ'
 | .ok r ρ' q=>match vn ρ' r with
  | some (.d (.bool b))=>.ok b ρ' q
  | _=>.bad
theorem zpk {G:EF} {σ:St} {H:Hp} {Q:Bool->Hp->Prop} (h:tT X.mg X.K E (tst G) σ H Q):tR X.mg X.K E G σ H fun x H'=>∃k,x=.bl k/\Q k H':=by
 obtain ⟨W,ρ,f,ok,q⟩:=h;refine ⟨W,ρ,f,ok, ?_⟩;unfold tst at q
 cases a:G ρ with
 | bad=>rw[a] at q;exact q
 | ex c ρ'=>rw[a] at q;exact q
 | ok r ρ' q'=>
  rw[a] at q;intro v H' W' f' B s rv n m k;dsimp only at q
  cases e:vn ρ' r with
  | none=>rw[e] at q;exact False.elim q
  | some o=>
   rw[e] at q;obtain ⟨a1,a2⟩:=zc0 e;obtain ⟨_,ow,_⟩:=s.vw rv a1 a2
   cases o with
   | d x=>
    cases x with
    | bool b=>
     cases ow with
     | d hd=>cases hd;exact ⟨b,rfl,q H' W' f' s (m.narrow fun x hx=>.inl hx) k⟩
    | _=>exact False.elim q
   | _=>exact False.elim q
theorem zbc {op:CmpOp} {F:O->O->Option O} {a b:Expr} {A B:EF} {pos:Pos} (ho:OpR X (compareOp op) (rV2 X.mg X.K F)) (ha:VR X E a A) (hb:VR X E b B) (hm:behindInMarks op b=false):VT X E (.Compare a [op] [b] pos) (tst (e2 A B F)):=
 (zlJ ho ha hb hm).imp fun σ H Q h=>by
  have:=zpk h
  exact vr2 (E:=E) (X:=X) this
def e1 (A:EF) (F:O->Option O):EF:=fun ρ=>(A ρ).bind fun ra ρ1 q1=>match vn ρ1 ra with
 | some x=>match F x with
  | some z=>.ok (.own z) ρ1 q1
  | none=>.bad
 | none=>.bad
theorem vr1 {A:EF} {F:O->Option O} {σ:St} {H:Hp} {Q:VK} (h:tR X.mg X.K E (e1 A F) σ H Q):tR X.mg X.K E A σ H fun x H1=>rV1 X.mg X.K F x H1 Q:=by
 obtain ⟨W,ρ,f,ok,q⟩:=h;refine ⟨W,ρ,f,ok, ?_⟩;unfold e1 at q
 cases a:A ρ with
 | bad=>rw[a] at q;exact q
 | ex c ρ'=>rw[a] at q;exact q
 | ok ra ρ1 q1=>
  rw[a] at q;intro v H' W' f' C s r n m k;dsimp only[Re.bind] at q
  cases e1:vn ρ1 ra with
  | none=>rw[e1] at q;exact False.elim q
  | some x=>
   rw[e1] at q;dsimp only at q
   cases e3:F x with
   | none=>rw[e3] at q;exact False.elim q
   | some z=>
    rw[e3] at q;obtain ⟨a1,a2⟩:=zc0 e1;obtain ⟨_,o1,_⟩:=s.vw r a1 a2;refine ⟨W',x,_,z,o1,m.dom',e3,fun w H'' W'' B' g ow=>?_⟩;obtain ⟨g1,g2,g3⟩:=g.fin s m fun x hx=>.inl hx
    exact q w H'' W'' f' B' g1 ⟨ow,g.nd⟩ g2 g3 fun hq=>g.quiet ok (k hq)
theorem zoQ {op:UnaryOp} {F:O->Option O} {a:Expr} {A:EF} {pos:Pos} (ho:UnR X (unaryOp op) (rV1 X.mg X.K F)) (ha:VR X E a A):VR X E (.UnaryOp op a pos) (e1 A F):=
 (znb ho ha).imp fun _ _ _ h=>vr1 h
def aNil:AF:=fun ρ=>.ok [] ρ true
def zae (A:EF) (R:AF):AF:=fun ρ=>(A ρ).bind fun r ρ1 q1=>(R ρ1).bind fun rs ρ2 q2=>if pok ρ1 q2 r then .ok (r::rs) ρ2 (q1&&q2) else .bad
theorem zai:VA X E [] aNil:=PA.imp zdo fun σ H Q ⟨W,ρ,f,ok,q⟩=>
 q [] H W f (fun _=>[]) ok.s ⟨fun k r e=>by simp at e,fun _ _=>rfl,rfl,⟨fun _=>List.nodup_nil,fun _ _ _ _ z=>nomatch z⟩⟩ (fun x ⟨_,z⟩=>nomatch z)
  ((Mv.refl ok.sub ok.dom).narrow fun x h=>h.resolve_right fun ⟨_,z⟩=>nomatch z) fun _ _ _=>rfl
def zf7 (B:List Addr) (g:Fp):Fp:=fun k=>match k with | 0=>B | k+1=>g k
theorem inn_cons {B:List Addr} {g:Fp} {x:Addr}:Inn (zf7 B g) x↔x∈B\/Inn g x:=⟨fun hx__=>by
 obtain ⟨k,h⟩:=hx__
 cases k with
 | zero=>exact .inl h
 | succ k=>exact .inr ⟨k,h⟩,fun h=>h.elim (fun h=>⟨0,h⟩) fun ⟨k,h⟩=>⟨k+1,h⟩⟩
theorem Fam.cons {B:List Addr} {g:Fp} (nd:B.Nodup) (h:Fam g) (ap:∀x∈B,¬Inn g x):Fam (zf7 B g):=⟨fun k=>by
 cases k with
 | zero=>exact nd
 | succ k=>exact h.nd k,fun i j hij x hx hy=>by
 cases i with
 | zero=>
  cases j with
  | zero=>exact hij rfl
  | succ j=>exact ap x hx ⟨j,hy⟩
 | succ i=>
  cases j with
  | zero=>exact ap x hy ⟨i,hx⟩
  | succ j=>exact h.ap i j (fun z=>hij (by rw[z])) x hx hy⟩
theorem RvOk.nd {mg:Str->Option Value} {K:PySem.W.Frag} {H:Hp} {W:Addr->Prop} {σ:St} {v:V} {r:Rv} {B:List Addr} (h:RvOk mg K H W σ v r B):B.Nodup:=by
 cases r with
 | own o=>exact h.2
 | «at» i p=>rw[h.1];exact List.nodup_nil
theorem zac {e:Expr} {es:List Expr} {A:EF} {R:AF} (ha:VR X E e A) (hr:VA X E es R) (hs:starEach (e::es) X.env=(false,eval e X.env)::starEach es X.env:=by rfl):VA X E (e::es) (zae A R):=
 (zb7 ha hr hs).imp fun σ H Q hx__=>by
  obtain ⟨W,ρ,f,ok,q⟩:=hx__;refine ⟨W,ρ,f,ok, ?_⟩;unfold zae at q
  cases a:A ρ with
  | bad=>rw[a] at q;exact q
  | ex c ρ'=>rw[a] at q;exact q
  | ok r ρ1 q1=>
   rw[a] at q;intro v H1 W1 f1 C s1 r1 n1 m1 k1;have ok1:Ok X.mg X.K H1 W1 σ ρ1 f1:=⟨s1,fun x hx=>m1.sub' x (.inl hx),m1.dom'⟩;refine ⟨W1,ρ1,f1,ok1, ?_⟩;have hC:∀x∈C,W1 x/\¬Inn f1 x:=fun x hx=>⟨m1.sub' x (.inr hx),n1 x hx⟩
   dsimp only[Re.bind] at q
   cases b:R ρ1 with
   | bad=>rw[b] at q;exact q
   | ex c ρ'=>
    rw[b] at q;exact fun H2 W2 f2 s2 m2=>q H2 W2 f2 s2 (m1.trans (m2.wide (fun x hx=>.inl hx) m1.sub'))
   | ok rs ρ2 q2=>
    rw[b] at q;dsimp only at q
    by_cases hp:pok ρ1 q2 r=true
    .rw[if_pos hp] at q;intro vs H2 W2 f2 g s2 r2 n2 m2 k2;have ap:∀x∈C,¬Inn g x:=fun x hx z=>m2.apart (hC x hx).1 (hC x hx).2 (.inr z)
     refine q (v::vs) H2 W2 f2 (zf7 C g) s2 ⟨fun k r' e=>?_,fun k hk=>?_,by simp[r2.len],.cons r1.nd r2.fam ap⟩ (fun x hx z=>?_) (m1.trans ⟨fun b o e n=>m2.same b o e fun z=>n (.inl z),m2.less,fun x w=>(m2.more x w).imp .inl id,fun x w=>?_,m1.sub',m2.dom,fun x w=>?_,m2.dom'⟩) fun hq x hx=>?_
     .cases k with
      | zero=>cases e;exact ⟨v,rfl,r1.on s1 hC m2 k2 hp⟩
      | succ k=>exact r2.rv k r' e
     .cases k with
      | zero=>simp at hk
      | succ k=>exact r2.no k (by simpa using hk)
     .rcases inn_cons.mp hx with hx | hx
      .exact m2.apart (hC x hx).1 (hC x hx).2 (.inl z)
      .exact n2 x hx z
     .rcases w with w | w
      .exact (m2.ours x (.inl w)).imp .inl id
      .rcases inn_cons.mp w with w | w
       .exact .inl (.inr w)
       .exact (m2.ours x (.inr w)).imp .inl id
     .rcases w with w | w
      .exact m2.sub' x (.inl w)
      .rcases inn_cons.mp w with w | w
       .exact (m2.hand (hC x w).1 (hC x w).2).1
       .exact m2.sub' x (.inr w)
     .rw[Bool.and_eq_true] at hq;have e1:=k1 hq.1 x hx
      by_cases i1:Inn f1 x
      .exact (k2 hq.2 x i1).trans e1
      .cases e:H x with
       | none=>exact absurd e (ok.dom x (ok.sub x hx))
       | some o=>
        rw[e] at e1;exact m2.same x o e1 i1
    .rw[if_neg hp] at q;exact False.elim q
end
section
variable {mg:Str->Option Value} {K:PySem.W.Frag} {H:Hp} {W:Addr->Prop} {σ:St} {ρ ρ':Rho} {f g:Fp}
structure Gv (W:Addr->Prop) (f:Fp) (W':Addr->Prop) (f':Fp):Prop where
 less:∀x,W' x->W x
 more:∀x,W x->Inn f x\/W' x
 ours:∀x,Inn f' x->Inn f x
 sub:∀x,Inn f' x->W' x
theorem Gv.trans {W1 W2:Addr->Prop} {f1 f2:Fp} (a:Gv W f W1 f1) (b:Gv W1 f1 W2 f2):Gv W f W2 f2:=
 ⟨fun x h=>a.less x (b.less x h),fun x h=>(a.more x h).elim .inl fun h=>(b.more x h).imp (a.ours x) id,fun x h=>a.ours x (b.ours x h),b.sub⟩
theorem Gv.refl (s:∀x,Inn f x->W x):Gv W f W f:=⟨fun _ h=>h,fun _ h=>.inr h,fun _ h=>h,s⟩
theorem ze3 {r:Rv} {v:V} {B:List Addr} {o:O} (s:Sl mg K H W σ ρ f) (sb:∀x,Inn f x->W x) (h:RvOk mg K H W σ v r B) (e:coe ρ r=some (o,ρ')) :
  ∃W' f',Sl mg K H W' σ ρ' f'/\Gv W f W' f'/\∃B',Ow mg K H W' v o B'/\B'.Nodup/\∀x∈B',x∈B:=by
 cases r with
 | own u=>cases e;exact ⟨W,f,s,.refl sb,B,h.1,h.2,fun _ z=>z⟩
 | «at» i p=>
  obtain ⟨_,u,h1,h2⟩:=h;rw[coe] at e
  cases q:ρ[i]? with
  | none=>rw[q] at e;cases e
  | some w=>
   rw[q] at e;dsimp only at e;rcases s.sl i w q with ⟨rfl,_⟩ | ⟨v',g1,g2⟩
   .cases p with
    | nil=>cases e
    | cons k p=>cases e
   .rw[h1] at g1;cases g1
    cases y:sub p w with
    | none=>rw[y] at e;cases e
    | some n=>
     rw[y] at e;obtain ⟨u',C,k1,k2,k3⟩:=g2.sub y
     cases k1.inj h2
     have fin:∀xi x,fz w=some xi->fz n=some x->o=.d x->ρ'=ρ.set i (.d xi)->∃W' f',Sl mg K H W' σ ρ' f'/\Gv W f W' f'/\∃B',Ow mg K H W' v o B'/\B'.Nodup/\∀x∈B',x∈B:=fun xi x e1 e2 e3 e4=>by
      subst e3 e4;refine ⟨fun a=>W a/\a∉f i,fset f i [], ?_,⟨fun x h=>h.1,fun x h=>(Classical.em (x∈f i)).imp (fun z=>⟨i,z⟩) fun z=>⟨h,z⟩,fun x h=>h.set.elim id fun z=>(nomatch z),fun x h=>?_⟩,[],.d (k2.dn (fun _ z=>z.1) e2 fun x hx z=>z.2 (k3.subset hx)),List.nodup_nil,fun _ z=>nomatch z⟩
      .have s':Sl mg K H (fun a=>W a/\a∉f i) σ ρ f:=s.on (DMv.weak fun _ z=>z.1) fun _ _=>rfl
       exact s'.setS h1 (.d (g2.dn (fun _ z=>z.1) e1 fun x hx z=>z.2 hx)) List.nodup_nil fun x z=>nomatch z
      .obtain ⟨j,hj⟩:=h
       by_cases ej:j=i
       .subst ej;rw[za8] at hj;cases hj
       .rw[zbs ej] at hj;exact ⟨sb x ⟨j,hj⟩,fun z=>s.fam.ap j i ej x hj z⟩
     cases n with
     | d x=>cases e;cases k2 with | d hd=>exact ⟨W,f,s,.refl sb,[],.d hd,List.nodup_nil,fun _ z=>nomatch z⟩
     | x c=>cases e;cases k2 with | x n1 n2 n3 n4=>exact ⟨W,f,s,.refl sb,[],.x n1 n2 n3 n4,List.nodup_nil,fun _ z=>nomatch z⟩
     | q ob=>cases e;cases k2 with | q n1=>exact ⟨W,f,s,.refl sb,[],.q n1,List.nodup_nil,fun _ z=>nomatch z⟩
     | g ob=>cases e;cases k2 with | g n1 n2=>exact ⟨W,f,s,.refl sb,[],.g n1 n2,List.nodup_nil,fun _ z=>nomatch z⟩
     | z=>
      dsimp only at e;rw[show fz .z=none from rfl] at e
      cases a1:fz w<;>rw[a1] at e<;>cases e
     | l xs=>
      dsimp only at e
      cases a1:fz w with
      | none=>rw[a1] at e;cases e
      | some xi=>
       cases a2:fz (.l xs) with
       | none=>rw[a1,a2] at e;cases e
       | some x=>rw[a1,a2] at e;cases e;exact fin xi x a1 a2 rfl rfl
     | t xs=>
      dsimp only at e
      cases a1:fz w with
      | none=>rw[a1] at e;cases e
      | some xi=>
       cases a2:fz (.t xs) with
       | none=>rw[a1,a2] at e;cases e
       | some x=>rw[a1,a2] at e;cases e;exact fin xi x a1 a2 rfl rfl
theorem zkR {r:Rv} {v:V} {B:List Addr} {o:O} (s:Sl mg K H W σ ρ f) (sb:∀x,Inn f x->W x) (h:RvOk mg K H W σ v r B) (hB:∀x∈B,W x/\¬Inn f x) (e:mov ρ r=some (o,ρ')) :
  ∃W' f',Sl mg K H W' σ ρ' f'/\Gv W f W' f'/\∃B',Ow mg K H W' v o B'/\B'.Nodup/\∀x∈B',(x∈B\/Inn f x)/\W' x/\¬Inn f' x:=by
 have viaCoe:coe ρ r=some (o,ρ')->∃W' f',Sl mg K H W' σ ρ' f'/\Gv W f W' f'/\∃B',Ow mg K H W' v o B'/\B'.Nodup/\∀x∈B',(x∈B\/Inn f x)/\W' x/\¬Inn f' x:=fun e=>by
  obtain ⟨W',f',s',g,B',h1,h2,h3⟩:=ze3 s sb h e;exact ⟨W',f',s',g,B',h1,h2,fun x hx=>⟨.inl (h3 x hx),(g.more x (hB x (h3 x hx)).1).resolve_left (hB x (h3 x hx)).2,fun z=>(hB x (h3 x hx)).2 (g.ours x z)⟩⟩
 cases r with
 | own u=>exact viaCoe e
 | «at» i p=>
  cases p with
  | cons k p=>exact viaCoe e
  | nil=>
   obtain ⟨_,u,h1,h2⟩:=h
   cases (show u=v from h2)
   rw[mov] at e
   cases q:ρ[i]? with
   | none=>rw[q] at e;cases e
   | some w=>
    rw[q] at e;rcases s.sl i w q with ⟨rfl,_⟩ | ⟨v',g1,g2⟩
    .cases e
    .rw[h1] at g1;cases g1;have e':o=w/\ρ'=ρ.set i .z:=by
      cases w<;>first | (cases e;exact ⟨rfl,rfl⟩) | cases e
     obtain ⟨rfl,rfl⟩:=e';exact ⟨W,fset f i [],s.setZ,⟨fun _ h=>h,fun _ h=>.inr h,fun x h=>h.set.elim id fun z=>(nomatch z),fun x h=>sb x (h.set.elim id fun z=>nomatch z)⟩,f i,g2,s.fam.nd i,fun x hx=>⟨.inr ⟨i,hx⟩,sb x ⟨i,hx⟩,fun hx__=>by
      obtain ⟨j,hj⟩:=hx__
      by_cases ej:j=i
      .subst ej;rw[za8] at hj;cases hj
      .rw[zbs ej] at hj;exact s.fam.ap j i ej x hj hx⟩⟩
def coes (ρ:Rho):List Rv->Option (List O×Rho)
 | []=>some ([],ρ)
 | r::rs=>match coe ρ r with
  | some (o,ρ1)=>match coes ρ1 rs with
   | some (os,ρ2)=>some (o::os,ρ2)
   | none=>none
  | none=>none
def movs (ρ:Rho):List Rv->Option (List O×Rho)
 | []=>some ([],ρ)
 | r::rs=>match mov ρ r with
  | some (o,ρ1)=>match movs ρ1 rs with
   | some (os,ρ2)=>some (o::os,ρ2)
   | none=>none
  | none=>none
theorem Rvs.tail {vs:List V} {r:Rv} {rs:List Rv} (h:Rvs mg K H W σ vs (r::rs) g):∃v us,vs=v::us/\RvOk mg K H W σ v r (g 0)/\Rvs mg K H W σ us rs (fun k=>g (k+1)):=by
 cases vs with
 | nil=>have:=h.len;simp at this
 | cons v us=>
  obtain ⟨v',e,q⟩:=h.rv 0 r rfl;cases e;exact ⟨v,us,rfl,q,⟨fun k r' e=>h.rv (k+1) r' e,fun k hk=>h.no (k+1) (by simpa using hk),by simpa using h.len,⟨fun i=>h.fam.nd _,fun i j hij=>h.fam.ap _ _ (by omega)⟩⟩⟩
theorem RvOk.weak {W':Addr->Prop} {r:Rv} {v:V} {B:List Addr} (h:RvOk mg K H W σ v r B) (w:∀x,W' x->W x):RvOk mg K H W' σ v r B:=by
 cases r with
 | own o=>exact ⟨h.1.on (DMv.weak w) fun _ _=>rfl,h.2⟩
 | «at» i p=>exact h
theorem Rvs.weak {W':Addr->Prop} {vs:List V} {rs:List Rv} (h:Rvs mg K H W σ vs rs g) (w:∀x,W' x->W x):Rvs mg K H W' σ vs rs g:=
 ⟨fun k r e=>let ⟨v,h1,h2⟩:=h.rv k r e;⟨v,h1,h2.weak w⟩,h.no,h.len,h.fam⟩
theorem ziw:∀{rs:List Rv} {vs:List V} {W:Addr->Prop} {ρ ρ':Rho} {f g:Fp} {os:List O},Sl mg K H W σ ρ f->(∀x,Inn f x->W x)->Rvs mg K H W σ vs rs g->(∀x,Inn g x->W x/\¬Inn f x)->coes ρ rs=some (os,ρ')->
  ∃W' f',Sl mg K H W' σ ρ' f'/\Gv W f W' f'/\∃As,Ows mg K H W' vs os As/\As.Nodup/\∀x∈As,Inn g x
 | [],vs,W,ρ,ρ',f,g,os,s,sb,h,hg,e=>by
  cases e
  cases vs with
  | nil=>exact ⟨W,f,s,.refl sb,[],.nil,List.nodup_nil,fun _ z=>nomatch z⟩
  | cons v vs=>have:=h.len;simp at this
 | r::rs,vs,W,ρ,ρ',f,g,os,s,sb,h,hg,e=>by
  obtain ⟨v,us,rfl,h0,ht⟩:=h.tail;rw[coes] at e
  cases a:coe ρ r with
  | none=>rw[a] at e;cases e
  | some z=>
   obtain ⟨o,ρ1⟩:=z;rw[a] at e;dsimp only at e
   cases b:coes ρ1 rs with
   | none=>rw[b] at e;cases e
   | some z=>
    obtain ⟨os',ρ2⟩:=z;rw[b] at e;cases e;obtain ⟨W1,f1,s1,g1,B,o1,nd1,in1⟩:=ze3 s sb h0 a;have hg1:∀x,Inn g x->W1 x/\¬Inn f1 x:=fun x hx=>⟨(g1.more x (hg x hx).1).resolve_left (hg x hx).2,fun z=>(hg x hx).2 (g1.ours x z)⟩
    obtain ⟨W2,f2,s2,g2,As,o2,nd2,in2⟩:=ziw s1 g1.sub (ht.weak g1.less) (fun x ⟨k,hk⟩=>hg1 x ⟨k+1,hk⟩) b;refine ⟨W2,f2,s2,g1.trans g2,B++As,.cons (o1.on (DMv.weak g2.less) fun _ _=>rfl) o2,List.nodup_append.mpr ⟨nd1,nd2,fun x hx y hy z=>?_⟩,fun x hx=>?_⟩
    .subst z;obtain ⟨k,hk⟩:=in2 x hy;exact h.fam.ap 0 (k+1) (by omega) x (in1 x hx) hk
    .rcases List.mem_append.mp hx with hx | hx
     .exact ⟨0,in1 x hx⟩
     .obtain ⟨k,hk⟩:=in2 x hx;exact ⟨k+1,hk⟩
theorem zi5:∀{rs:List Rv} {vs:List V} {W:Addr->Prop} {ρ ρ':Rho} {f g:Fp} {os:List O},Sl mg K H W σ ρ f->(∀x,Inn f x->W x)->Rvs mg K H W σ vs rs g->(∀x,Inn g x->W x/\¬Inn f x)->movs ρ rs=some (os,ρ')->
  ∃W' f',Sl mg K H W' σ ρ' f'/\Gv W f W' f'/\∃As,Ows mg K H W' vs os As/\As.Nodup/\∀x∈As,(Inn g x\/Inn f x)/\W' x/\¬Inn f' x
 | [],vs,W,ρ,ρ',f,g,os,s,sb,h,hg,e=>by
  cases e
  cases vs with
  | nil=>exact ⟨W,f,s,.refl sb,[],.nil,List.nodup_nil,fun _ z=>nomatch z⟩
  | cons v vs=>have:=h.len;simp at this
 | r::rs,vs,W,ρ,ρ',f,g,os,s,sb,h,hg,e=>by
  obtain ⟨v,us,rfl,h0,ht⟩:=h.tail;rw[movs] at e
  cases a:mov ρ r with
  | none=>rw[a] at e;cases e
  | some z=>
   obtain ⟨o,ρ1⟩:=z;rw[a] at e;dsimp only at e
   cases b:movs ρ1 rs with
   | none=>rw[b] at e;cases e
   | some z=>
    obtain ⟨os',ρ2⟩:=z;rw[b] at e;cases e;obtain ⟨W1,f1,s1,g1,B,o1,nd1,in1⟩:=zkR s sb h0 (fun x hx=>hg x ⟨0,hx⟩) a;have hg1:∀x,Inn g x->W1 x/\¬Inn f1 x:=fun x hx=>⟨(g1.more x (hg x hx).1).resolve_left (hg x hx).2,fun z=>(hg x hx).2 (g1.ours x z)⟩
    obtain ⟨W2,f2,s2,g2,As,o2,nd2,in2⟩:=zi5 s1 g1.sub (ht.weak g1.less) (fun x ⟨k,hk⟩=>hg1 x ⟨k+1,hk⟩) b;refine ⟨W2,f2,s2,g1.trans g2,B++As,.cons (o1.on (DMv.weak g2.less) fun _ _=>rfl) o2,List.nodup_append.mpr ⟨nd1,nd2,fun x hx y hy z=>?_⟩,fun x hx=>?_⟩
    .subst z;rcases (in2 x hy).1 with ⟨k,hk⟩ | q
     .rcases (in1 x hx).1 with r | r
      .exact h.fam.ap 0 (k+1) (by omega) x r hk
      .exact (hg x ⟨k+1,hk⟩).2 r
     .exact (in1 x hx).2.2 q
    .rcases List.mem_append.mp hx with hx | hx
     .obtain ⟨q1,q2,q3⟩:=in1 x hx;exact ⟨q1.imp (fun z=>⟨0,z⟩) id,(g2.more x q2).resolve_left q3,fun z=>q3 (g2.ours x z)⟩
     .obtain ⟨q1,q2,q3⟩:=in2 x hx;exact ⟨q1.elim (fun ⟨k,hk⟩=>.inl ⟨k+1,hk⟩) fun z=>.inr (g1.ours x z),q2,q3⟩
end
def mkT (os:List O):O:=match lds os with | some ds=>.d (.tuple ds) | none=>.t os
def zaL (take:Rho->List Rv->Option (List O×Rho)) (mk:List O->O) (A:AF):EF:=fun ρ=>(A ρ).bind fun rs ρ1 q=>match take ρ1 rs with
 | some (os,ρ2)=>if os.length<=sizeLine then .ok (.own (mk os)) ρ2 q else .bad
 | none=>.bad
def Take (take:Rho->List Rv->Option (List O×Rho)):Prop:=∀{mg:Str->Option Value} {K:PySem.W.Frag} {H:Hp} {σ:St} {rs:List Rv} {vs:List V} {W:Addr->Prop} {ρ ρ':Rho} {f g:Fp} {os:List O},Sl mg K H W σ ρ f->(∀x,Inn f x->W x)->Rvs mg K H W σ vs rs g->(∀x,Inn g x->W x/\¬Inn f x)->take ρ rs=some (os,ρ')->
  ∃W' f',Sl mg K H W' σ ρ' f'/\Gv W f W' f'/\∃As,Ows mg K H W' vs os As/\As.Nodup/\∀x∈As,(Inn g x\/Inn f x)/\W' x/\¬Inn f' x
theorem zeK:Take movs:=@zi5
theorem zax:Take coes:=fun s sb h hg e=>by
 obtain ⟨W',f',s',g,As,h1,h2,h3⟩:=ziw s sb h hg e;exact ⟨W',f',s',g,As,h1,h2,fun x hx=>⟨.inl (h3 x hx),(g.more x (hg x (h3 x hx)).1).resolve_left (hg x (h3 x hx)).2,fun z=>(hg x (h3 x hx)).2 (g.ours x z)⟩⟩
theorem Gv.mv {A:Addr->Prop} {H:Hp} {W W':Addr->Prop} {f f':Fp} {As:List Addr} (g:Gv W f W' f') (hA:∀x,Inn f x->A x) (s:∀x,A x->W x) (d:∀x,W x->H x≠none) (hAs:∀x∈As,A x/\W' x):Mv A H W (fun x=>Inn f' x\/x∈As) H W':=
 ⟨fun _ _ h _=>h,fun x h=>.inl (g.less x h),fun x h=>(g.more x h).imp (hA x) id,fun x h=>.inl (h.elim (fun z=>hA x (g.ours x z)) fun z=>(hAs x z).1),s,d,fun x h=>h.elim (g.sub x) fun z=>(hAs x z).2,fun x h=>d x (g.less x h)⟩
section
variable {X:Cx} {E:XK}
theorem zmV {take:Rho->List Rv->Option (List O×Rho)} (ht:Take take) {A:AF} {σ:St} {H:Hp} {W:Addr->Prop} {ρ:Rho} {f:Fp} {R:List V->Hp->Prop} (ok:Ok X.mg X.K H W σ ρ f)
  (h:match A ρ with
   | .bad=>False
   | .ex c ρ'=>∀H' W' f',Sl X.mg X.K H' W' σ ρ' f'->Mv (Inn f) H W (Inn f') H' W'->XW X.mg X.K E c H'
   | .ok rs ρ1 q=>match take ρ1 rs with
    | none=>False
    | some (os,ρ2)=>∀vs H' W' f' As,Sl X.mg X.K H' W' σ ρ2 f'->Ows X.mg X.K H' W' vs os As->As.Nodup->(∀x∈As,¬Inn f' x)->Mv (Inn f) H W (fun x=>Inn f' x\/x∈As) H' W'->(q=true->∀x,Inn f x->H' x=H x)->R vs H') :
  tRs X.mg X.K E A σ H R:=by
 refine ⟨W,ρ,f,ok, ?_⟩
 cases a:A ρ with
 | bad=>rw[a] at h;exact h
 | ex c ρ'=>rw[a] at h;exact h
 | ok rs ρ1 q=>
  rw[a] at h;intro vs H1 W1 f1 g s1 r1 n1 m1 k1;dsimp only at h
  cases b:take ρ1 rs with
  | none=>rw[b] at h;exact h.elim
  | some z=>
   obtain ⟨os,ρ2⟩:=z;rw[b] at h;obtain ⟨W2,f2,s2,g2,As,o2,nd2,in2⟩:=ht s1 (fun x hx=>m1.sub' x (.inl hx)) r1 (fun x hx=>⟨m1.sub' x (.inr hx),n1 x hx⟩) b;refine h vs H1 W2 f2 As s2 o2 nd2 (fun x hx=>(in2 x hx).2.2) (m1.trans (g2.mv (fun x hx=>.inl hx) m1.sub' m1.dom' fun x hx=>⟨(in2 x hx).1.elim .inr .inl,(in2 x hx).2.1⟩)) k1
theorem zbN {take:Rho->List Rv->Option (List O×Rho)} {es:List Expr} {A:AF} {pos:Pos} (ht:Take take) (ha:VA X E es A):VR X E (.List es pos) (zaL take .l A):=
 (zmA ha).imp fun σ H Q hx__=>by
  obtain ⟨W,ρ,f,ok,q⟩:=hx__;refine zmV ht ok ?_;unfold zaL at q
  cases a:A ρ with
  | bad=>rw[a] at q;exact q
  | ex c ρ'=>rw[a] at q;exact q
  | ok rs ρ1 k=>
   rw[a] at q;dsimp only[Re.bind] at q ⊢
   cases b:take ρ1 rs with
   | none=>rw[b] at q;exact False.elim q
   | some z=>
    obtain ⟨os,ρ2⟩:=z;rw[b] at q;dsimp only at q ⊢
    by_cases hz:os.length<=sizeLine
    .rw[if_pos hz] at q;intro vs H' W' f' As s o nd ap m kk;refine ⟨by rw[o.length];exact hz,fun p hp=>?_⟩;have g:Gr H' W' [p] (upd H' p (.lst vs)) (fun x=>W' x\/x∈[p]):=Gr.newO hp;have hpA:p∉As:=fun z=>m.dom' p (m.sub' p (.inr z)) hp
     refine q (.ref p) _ _ f' (p::As) (s.on g.d fun x hx=>g.kept m.dom' (m.sub' x (.inl hx))) ⟨.l zbu (o.on g.d fun x hx=>g.kept m.dom' (m.sub' x (.inr hx))),List.nodup_cons.mpr ⟨hpA,nd⟩⟩ (fun x hx z=>?_) ((m.trans (g.mv m.sub' m.dom')).narrow fun x hx=>?_) fun hq=>g.quiet ok (kk hq)
     .rcases List.mem_cons.mp hx with rfl | hx
      .exact m.dom' x (m.sub' x (.inl z)) hp
      .exact ap x hx z
     .rcases hx with hx | hx
      .exact .inl (.inl hx)
      .rcases List.mem_cons.mp hx with rfl | hx
       .exact .inr List.mem_cons_self
       .exact .inl (.inr hx)
    .rw[if_neg hz] at q;exact False.elim q
theorem Ow.mkT {mg:Str->Option Value} {K:PySem.W.Frag} {H:Hp} {W:Addr->Prop} {p:Addr} {vs:List V} {os:List O} {As:List Addr} (n:¬W p) (h:H p=some (.tup vs)) (o:Ows mg K H W vs os As):Ow mg K H W (.ref p) (mkT os) As:=by
 unfold L2.mkT
 cases e:lds os with
 | none=>exact .t n h o
 | some ds=>
  have:=ziz e
  subst this;obtain ⟨h1,rfl⟩:=o.toD;exact .d (.tup n h h1)
theorem zda {take:Rho->List Rv->Option (List O×Rho)} {es:List Expr} {A:AF} {k:Nat} {pos:Pos} (ht:Take take) (ha:VA X E es A):VR X E (.Tuple es k pos) (zaL take mkT A):=
 (znE ha).imp fun σ H Q hx__=>by
  obtain ⟨W,ρ,f,ok,q⟩:=hx__;refine zmV ht ok ?_;unfold zaL at q
  cases a:A ρ with
  | bad=>rw[a] at q;exact q
  | ex c ρ'=>rw[a] at q;exact q
  | ok rs ρ1 k=>
   rw[a] at q;dsimp only[Re.bind] at q ⊢
   cases b:take ρ1 rs with
   | none=>rw[b] at q;exact False.elim q
   | some z=>
    obtain ⟨os,ρ2⟩:=z;rw[b] at q;dsimp only at q ⊢
    by_cases hz:os.length<=sizeLine
    .rw[if_pos hz] at q;intro vs H' W' f' As s o nd ap m kk;refine ⟨by rw[o.length];exact hz,fun p hp=>?_⟩;have g:Gr H' W' [] (upd H' p (.tup vs)) W':=Gr.new hp;exact q (.ref p) _ _ f' As (s.on g.d fun x hx=>g.kept m.dom' (m.sub' x (.inl hx))) ⟨.mkT (fun z=>m.dom' p z hp) zbu (o.on g.d fun x hx=>g.kept m.dom' (m.sub' x (.inr hx))),nd⟩ ap ((m.trans (g.mv m.sub' m.dom')).narrow fun x hx=>.inl hx) fun hq=>g.quiet ok (kk hq)
    .rw[if_neg hz] at q;exact False.elim q
end
section
variable {mg:Str->Option Value} {K:PySem.W.Frag} {H:Hp} {W:Addr->Prop} {v:V} {As:List Addr}
theorem Ow.int {i:Int} (h:Ow mg K H W v (.d (.int i)) As):v=.int i:=by cases h with | d h=>cases h;rfl
theorem Ow.bl {b:Bool} (h:Ow mg K H W v (.d (.bool b)) As):v=.bl b:=by cases h with | d h=>cases h;rfl
theorem Ow.str {s:Str} (h:Ow mg K H W v (.d (.str s)) As):v=.str s:=by cases h with | d h=>cases h;rfl
theorem Ow.non (h:Ow mg K H W v (.d .none) As):v=.non:=by cases h with | d h=>cases h;rfl
end
theorem OpR.imp {X:Cx} {f:Value->Value->Sem Value} {r r':R2} (h:OpR X f r) (i:∀x y H Q,r' x y H Q->r x y H Q):OpR X f r':=fun pins s σ H x y v u Q I rx ry q=>h pins s σ H x y v u Q I rx ry (i x y H Q q)
theorem UnR.imp {X:Cx} {f:Value->Sem Value} {r r':V->Hp->VK->Prop} (h:UnR X f r) (i:∀x H Q,r' x H Q->r x H Q):UnR X f r':=fun pins s σ H x v Q I rx q=>h pins s σ H x v Q I rx (i x H Q q)
theorem CallR.imp {X:Cx} {f:Value} {r r':List V->Hp->VK->Prop} (h:CallR X f r) (i:∀x H Q,r' x H Q->r x H Q):CallR X f r':=fun pins s σ H x v Q I rx q=>h pins s σ H x v Q I rx (i x H Q q)
def fI2 (g:Int->Int->Option PyData):O->O->Option O
 | .d (.int a),.d (.int b)=>(g a b).map O.d
 | _,_=>none
theorem zkG {g:Int->Int->Option PyData} {x y z:O} (h:fI2 g x y=some z):∃a b c,x=.d (.int a)/\y=.d (.int b)/\g a b=some c/\z=.d c:=by
 unfold fI2 at h;split at h
 .rename_i a b
  cases e:g a b with
  | none=>rw[e] at h;cases h
  | some c=>rw[e] at h;cases h;exact ⟨a,b,c,rfl,rfl,e,rfl⟩
 .cases h
instance (i j:Int):Decidable (CMul i j):=decidable_of_iff ((-18446744073709551616 < i/\i < 18446744073709551616)\/(-18446744073709551616 < j/\j < 18446744073709551616)) (by unfold CMul;omega)
instance (i j:Int):Decidable (zh8 i j):=decidable_of_iff (0 < j/\j < 1606938044258990275541962092341162602522202993782792835301376) (by unfold zh8;omega)
instance (i j:Int):Decidable (CPow i j):=decidable_of_iff (0<=j/\j<=1000000/\i.natAbs < 18446744073709551616) (by unfold CPow;omega)
def gC (C:Int->Int->Prop) [∀i j,Decidable (C i j)] (f:Int->Int->Int) (a b:Int):Option PyData:=if C a b then some (.int (f a b)) else none
def gB (f:Int->Int->Bool) (a b:Int):Option PyData:=some (.bool (f a b))
def fSub:O->O->Option O:=fI2 fun a b=>some (.int (a - b))
def fMod:O->O->Option O:=fI2 (gC (fun _ j=>0 < j) fun a b=>a % b)
def fDiv:O->O->Option O:=fI2 (gC zh8 fun a b=>a / b)
def fPow:O->O->Option O:=fI2 (gC CPow fun a b=>a ^ b.toNat)
def fLt:O->O->Option O:=fI2 (gB fun a b=>decide (a < b))
def fLe:O->O->Option O:=fI2 (gB fun a b=>decide (a<=b))
def fGt:O->O->Option O:=fI2 (gB fun a b=>decide (b < a))
def fGe:O->O->Option O:=fI2 (gB fun a b=>decide (b<=a))
section
variable {X:Cx}
theorem zlv {f:Value->Value->Sem Value} {g:Int->Int->V} {d:Int->Int->PyData} (h:OpR X f (rI0 g)) (e:∀a b H W,Dn H W (g a b) (d a b)):OpR X f (rV2 X.mg X.K (fI2 fun a b=>some (d a b))):=h.imp fun x y H Q hx__=>by
 obtain ⟨W,ox,oy,As,Bs,z,o1,o2,dm,hf,q⟩:=hx__;obtain ⟨a,b,c,rfl,rfl,hc,rfl⟩:=zkG hf;cases hc;exact ⟨a,b,o1.int,o2.int,q _ H W [] .refl (.d (e a b H W))⟩
theorem zlW {f:Value->Value->Sem Value} {C:Int->Int->Prop} [∀i j,Decidable (C i j)] {g:Int->Int->Int} (h:OpR X f (rI C fun a b=>.int (g a b))):OpR X f (rV2 X.mg X.K (fI2 (gC C g))):=h.imp fun x y H Q hx__=>by
 obtain ⟨W,ox,oy,As,Bs,z,o1,o2,dm,hf,q⟩:=hx__;obtain ⟨a,b,c,rfl,rfl,hc,rfl⟩:=zkG hf;unfold gC at hc
 by_cases hC:C a b
 .rw[if_pos hC] at hc;cases hc;exact ⟨a,b,o1.int,o2.int,hC,q _ H W [] .refl (.d (.int _))⟩
 .rw[if_neg hC] at hc;cases hc
theorem zhF:OpR X (binaryOp .Sub) (rV2 X.mg X.K fSub):=zlv zmm fun _ _ _ _=>.int _
theorem zeV:OpR X (binaryOp .Mod) (rV2 X.mg X.K fMod):=zlW znz
theorem zkF:OpR X (binaryOp .FloorDiv) (rV2 X.mg X.K fDiv):=zlW zks
theorem zhR:OpR X (binaryOp .Pow) (rV2 X.mg X.K fPow):=zlW znM
theorem zjn:OpR X (compareOp .Lt) (rV2 X.mg X.K fLt):=zlv zlE fun _ _ _ _=>.bl _
theorem zls:OpR X (compareOp .Gt) (rV2 X.mg X.K fGt):=zlv zoY fun _ _ _ _=>.bl _
end
def fAdd:O->O->Option O
 | .d (.int a),.d (.int b)=>some (.d (.int (a+b)))
 | x,y=>match els x,els y with
  | some (true,xs),some (true,ys)=>match lds xs,lds ys with
   | some a,some b=>if a.length+b.length<=sizeLine then some (.l ((a++b).map O.d)) else none
   | _,_=>none
  | _,_=>none
theorem Ow.items {mg:Str->Option Value} {K:PySem.W.Frag} {H:Hp} {W:Addr->Prop} {v:V} {o:O} {As:List Addr} {k:Bool} {os:List O} {ds:List PyData} (h:Ow mg K H W v o As) (e:L2.els o=some (k,os)) (l:lds os=some ds) :
  ∃a vs,v=.ref a/\H a=some (if k then .lst vs else .tup vs)/\Dns H W vs ds:=by
 obtain ⟨a,vs,A,h1,h2,h3,_⟩:=h.els e;rw[ziz l] at h3;exact ⟨a,vs,h1,h2,h3.toD.1⟩
theorem Ow.newL {mg:Str->Option Value} {K:PySem.W.Frag} {H:Hp} {W:Addr->Prop} {p:Addr} {vs:List V} {ds:List PyData} (hp:H p=none) (h:Dns H W vs ds):Ow mg K (upd H p (.lst vs)) (fun x=>W x\/x∈[p]) (.ref p) (.l (ds.map O.d)) [p]:=
 .l zbu (.ofD (h.on (Gr.newO hp).d))
section
variable {X:Cx}
theorem zbY:OpR X (binaryOp .Add) (rV2 X.mg X.K fAdd):=(op_add.or znB).imp fun x y H Q hx__=>by
 obtain ⟨W,ox,oy,As,Bs,z,o1,o2,dm,hf,q⟩:=hx__;unfold fAdd at hf;split at hf
 .cases hf;exact .inl ⟨_,_,o1.int,o2.int,q _ H W [] .refl (.d (.int _))⟩
 .split at hf
  .rename_i xs ys e1 e2;split at hf
   .rename_i a b l1 l2
    by_cases hz:a.length+b.length<=sizeLine
    .rw[if_pos hz] at hf;cases hf;obtain ⟨p1,v1,rfl,h1,d1⟩:=o1.items e1 l1;obtain ⟨p2,v2,rfl,h2,d2⟩:=o2.items e2 l2;exact .inr ⟨p1,p2,v1,v2,rfl,rfl,h1,h2,by rw[d1.length,d2.length];exact hz,fun p hp=>q _ _ _ _ (.newO hp) (.newL hp (d1.app d2))⟩
    .rw[if_neg hz] at hf;cases hf
   .cases hf
  .cases hf
def fMul:O->O->Option O
 | .d (.int a),.d (.int b)=>if CMul a b then some (.d (.int (a * b))) else none
 | x,.d (.int k)=>match els x with
  | some (true,xs)=>match lds xs with
   | some a=>if -9223372036854775808<=k/\k < 9223372036854775808/\a.length * k.toNat<=sizeLine then some (.l ((List.replicate k.toNat a).flatten.map O.d)) else none
   | none=>none
  | _=>none
 | _,_=>none
theorem Dns.rep {P:Addr->Prop} {H:Hp} {xs:List V} {ds:List PyData} (h:Dns H P xs ds):∀k:Nat,Dns H P (List.replicate k xs).flatten (List.replicate k ds).flatten
 | 0=>.nil
 | k+1=>by rw[List.replicate_succ,List.replicate_succ,List.flatten_cons,List.flatten_cons];exact h.app (Dns.rep h k)
theorem zc7:OpR X (binaryOp .Mult) (rV2 X.mg X.K fMul):=(op_mul.or zn1).imp fun x y H Q hx__=>by
 obtain ⟨W,ox,oy,As,Bs,z,o1,o2,dm,hf,q⟩:=hx__;unfold fMul at hf;split at hf
 .rename_i a b
  by_cases hC:CMul a b
  .rw[if_pos hC] at hf;cases hf;exact .inl ⟨_,_,o1.int,o2.int,hC,q _ H W [] .refl (.d (.int _))⟩
  .rw[if_neg hC] at hf;cases hf
 .split at hf
  .rename_i k _ _ xs e1;split at hf
   .rename_i a l1
    by_cases hz:-9223372036854775808<=k/\k < 9223372036854775808/\a.length * k.toNat<=sizeLine
    .rw[if_pos hz] at hf;cases hf;obtain ⟨p1,v1,rfl,h1,d1⟩:=o1.items e1 l1;exact .inr ⟨p1,k,v1,rfl,o2.int,h1,hz.1,hz.2.1,by rw[d1.length];exact hz.2.2,fun p hp=>q _ _ _ _ (.newO hp) (.newL hp (d1.rep _))⟩
    .rw[if_neg hz] at hf;cases hf
   .cases hf
  .cases hf
 .cases hf
def fEq (neg:Bool) (x y:O):Option O:=match fz x,fz y with
 | some a,some b=>if SeqAt.shaped a&&SeqAt.shaped b then some (.d (.bool (if neg then !PyData.eqv a b else PyData.eqv a b))) else none
 | _,_=>none
theorem zfe (hu:X.A.units+64 < cLine):OpR X (compareOp .Eq) (rV2 X.mg X.K (fEq false)):=(znx hu).imp fun x y H Q hx__=>by
 obtain ⟨W,ox,oy,As,Bs,z,o1,o2,dm,hf,q⟩:=hx__;unfold fEq at hf;split at hf
 .rename_i a b e1 e2
  by_cases hz:(SeqAt.shaped a&&SeqAt.shaped b)=true
  .rw[if_pos hz] at hf;cases hf;rw[Bool.and_eq_true] at hz;exact eqD (o1.plain e1) (o2.plain e2) hz.1 hz.2 (q _ H W [] .refl (.d (.bl _)))
  .rw[if_neg hz] at hf;cases hf
 .cases hf
theorem zin (hu:X.A.units+64 < cLine):OpR X (compareOp .NotEq) (rV2 X.mg X.K (fEq true)):=(zn7 hu).imp fun x y H Q hx__=>by
 obtain ⟨W,ox,oy,As,Bs,z,o1,o2,dm,hf,q⟩:=hx__;unfold fEq at hf;split at hf
 .rename_i a b e1 e2
  by_cases hz:(SeqAt.shaped a&&SeqAt.shaped b)=true
  .rw[if_pos hz] at hf;cases hf;rw[Bool.and_eq_true] at hz;exact eqD (o1.plain e1) (o2.plain e2) hz.1 hz.2 (q _ H W [] .refl (.d (.bl _)))
  .rw[if_neg hz] at hf;cases hf
 .cases hf
def isN:O->Bool
 | .d .none=>true
 | _=>false
def isZ:O->Bool
 | .z=>true
 | _=>false
def fIs (neg:Bool) (x y:O):Option O:=if isN y&&!isZ x then some (.d (.bool (if neg then !isN x else isN x))) else none
theorem Ow.nonIff {mg:Str->Option Value} {K:PySem.W.Frag} {H:Hp} {W:Addr->Prop} {v:V} {o:O} {As:List Addr} (h:Ow mg K H W v o As) (nz:isZ o=false):decide (v=.non)=isN o:=by
 cases h with
 | z=>cases nz
 | d h=>cases h<;>first | rfl | (apply decide_eq_false;intro z;cases z)
 | l=>apply decide_eq_false;intro z;cases z
 | t=>apply decide_eq_false;intro z;cases z
 | x=>apply decide_eq_false;intro z;cases z
 | g=>apply decide_eq_false;intro z;cases z
 | q=>apply decide_eq_false;intro z;cases z
theorem zkQ {neg:Bool} {x y z:O} (h:fIs neg x y=some z):y=.d .none/\isZ x=false/\z=.d (.bool (if neg then !isN x else isN x)):=by
 unfold fIs at h
 by_cases hc:(isN y&&!isZ x)=true
 .rw[if_pos hc] at h;cases h;rw[Bool.and_eq_true] at hc;refine ⟨?_,by simpa using hc.2,rfl⟩
  cases y with
  | d p=>cases p<;>first | rfl | cases hc.1
  | _=>cases hc.1
 .rw[if_neg hc] at h;cases h
theorem zff:OpR X (compareOp .Is) (rV2 X.mg X.K (fIs false)):=op_isN.imp fun x y H Q hx__=>by
 obtain ⟨W,ox,oy,As,Bs,z,o1,o2,dm,hf,q⟩:=hx__;obtain ⟨rfl,nz,rfl⟩:=zkQ hf;refine ⟨o2.non, ?_⟩;rw[o1.nonIff nz];exact q _ H W [] .refl (.d (.bl _))
theorem zgR:OpR X (compareOp .IsNot) (rV2 X.mg X.K (fIs true)):=op_notN.imp fun x y H Q hx__=>by
 obtain ⟨W,ox,oy,As,Bs,z,o1,o2,dm,hf,q⟩:=hx__;obtain ⟨rfl,nz,rfl⟩:=zkQ hf;refine ⟨o2.non, ?_⟩;rw[o1.nonIff nz];exact q _ H W [] .refl (.d (.bl _))
end
def gRet {α:Type} (a:α):Rho->Re α:=fun ρ=>.ok a ρ true
def zbF {α β:Type} (G:Rho->Re α) (F:α->Rho->Re β):Rho->Re β:=fun ρ=>(G ρ).bind fun a ρ1 q1=>(F a ρ1).bind fun b ρ2 q2=>.ok b ρ2 (q1&&q2)
def eSc {α:Type} (dec:O->Option α) (A:EF):Rho->Re α:=fun ρ=>(A ρ).bind fun r ρ' q=>match vn ρ' r with
 | some o=>match dec o with
  | some a=>.ok a ρ' q
  | none=>.bad
 | none=>.bad
def decI:O->Option Int
 | .d (.int i)=>some i
 | _=>none
def decB:O->Option Bool
 | .d (.bool b)=>some b
 | _=>none
def eOfB (G:TF):EF:=fun ρ=>(G ρ).bind fun b ρ' q=>.ok (.own (.d (.bool b))) ρ' q
section
variable {mg:Str->Option Value} {K:PySem.W.Frag} {E:XK} {σ:St} {H:Hp}
theorem Ok.next {W:Addr->Prop} {ρ':Rho} {f f':Fp} {H':Hp} {W':Addr->Prop} {A:Addr->Prop} (s:Sl mg K H' W' σ ρ' f') (m:Mv (Inn f) H W A H' W') (h:∀x,Inn f' x->A x):Ok mg K H' W' σ ρ' f':=⟨s,fun x hx=>m.sub' x (h x hx),m.dom'⟩
theorem zfp {W W1:Addr->Prop} {ρ:Rho} {f f1:Fp} {H1 H2:Hp} {A W2:Addr->Prop} {q1 q2:Bool} (ok:Ok mg K H W σ ρ f) (k1:q1=true->∀x,Inn f x->H1 x=H x) (m2:Mv (Inn f1) H1 W1 A H2 W2) (k2:q2=true->∀x,Inn f1 x->H2 x=H1 x) :
  (q1&&q2)=true->∀x,Inn f x->H2 x=H x:=fun hq x hx=>by
 rw[Bool.and_eq_true] at hq;have e1:=k1 hq.1 x hx
 by_cases i1:Inn f1 x
 .exact (k2 hq.2 x i1).trans e1
 .cases e:H x with
  | none=>exact absurd e (ok.dom x (ok.sub x hx))
  | some o=>
   rw[e] at e1;exact m2.same x o e1 i1
theorem tG.bind {α β:Type} {G:Rho->Re α} {F:α->Rho->Re β} {Q:β->Hp->Prop} (h:tG mg K E (zbF G F) σ H Q):tG mg K E G σ H fun a H1=>tG mg K E (F a) σ H1 Q:=by
 obtain ⟨W,ρ,f,ok,q⟩:=h;refine ⟨W,ρ,f,ok, ?_⟩;unfold zbF at q
 cases a:G ρ with
 | bad=>rw[a] at q;exact q
 | ex c ρ'=>rw[a] at q;exact q
 | ok x ρ1 q1=>
  rw[a] at q;intro H1 W1 f1 s1 m1 k1;refine ⟨W1,ρ1,f1,.next s1 m1 fun _ z=>z, ?_⟩;dsimp only[Re.bind] at q
  cases b:F x ρ1 with
  | bad=>rw[b] at q;exact q
  | ex c ρ'=>rw[b] at q;exact fun H2 W2 f2 s2 m2=>q H2 W2 f2 s2 (m1.trans m2)
  | ok y ρ2 q2=>rw[b] at q;exact fun H2 W2 f2 s2 m2 k2=>q H2 W2 f2 s2 (m1.trans m2) (zfp ok k1 m2 k2)
def zg9 {α:Type} (G:Rho->Re α) (F:α->EF):EF:=zbF G F
theorem tG.then {α:Type} {G:Rho->Re α} {F:α->EF} {Q:VK} (h:tR mg K E (zg9 G F) σ H Q):tG mg K E G σ H fun a H1=>tR mg K E (F a) σ H1 Q:=by
 obtain ⟨W,ρ,f,ok,q⟩:=h;refine ⟨W,ρ,f,ok, ?_⟩;unfold zg9 zbF at q
 cases a:G ρ with
 | bad=>rw[a] at q;exact q
 | ex c ρ'=>rw[a] at q;exact q
 | ok x ρ1 q1=>
  rw[a] at q;intro H1 W1 f1 s1 m1 k1;refine ⟨W1,ρ1,f1,.next s1 m1 fun _ z=>z, ?_⟩;dsimp only[Re.bind] at q
  cases b:F x ρ1 with
  | bad=>rw[b] at q;exact q
  | ex c ρ'=>rw[b] at q;exact fun H2 W2 f2 s2 m2=>q H2 W2 f2 s2 (m1.trans m2)
  | ok y ρ2 q2=>rw[b] at q;exact fun v H2 W2 f2 B s2 r2 n2 m2 k2=>q v H2 W2 f2 B s2 r2 n2 (m1.trans m2) (zfp ok k1 m2 k2)
theorem tG.ret {α:Type} {a:α} {Q:α->Hp->Prop} (h:tG mg K E (gRet a) σ H Q):Q a H:=by
 obtain ⟨W,ρ,f,ok,q⟩:=h;exact q H W f ok.s (.refl ok.sub ok.dom) fun _ _ _=>rfl
theorem zln {α:Type} {dec:O->Option α} {val:α->V} (hd:∀{H:Hp} {W:Addr->Prop} {v:V} {o:O} {As:List Addr} {a:α},Ow mg K H W v o As->dec o=some a->v=val a) {G:EF} {Q:α->Hp->Prop} (h:tG mg K E (eSc dec G) σ H Q) :
  tR mg K E G σ H fun x H'=>∃k,x=val k/\Q k H':=by
 obtain ⟨W,ρ,f,ok,q⟩:=h;refine ⟨W,ρ,f,ok, ?_⟩;unfold eSc at q
 cases a:G ρ with
 | bad=>rw[a] at q;exact q
 | ex c ρ'=>rw[a] at q;exact q
 | ok r ρ' q'=>
  rw[a] at q;intro v H' W' f' B s rv n m k;dsimp only[Re.bind] at q
  cases e:vn ρ' r with
  | none=>rw[e] at q;exact False.elim q
  | some o=>
   rw[e] at q;dsimp only at q;obtain ⟨a1,a2⟩:=zc0 e;obtain ⟨_,ow,_⟩:=s.vw rv a1 a2
   cases e':dec o with
   | none=>rw[e'] at q;exact False.elim q
   | some a=>rw[e'] at q;exact ⟨a,hd ow e',q H' W' f' s (m.narrow fun x hx=>.inl hx) k⟩
theorem ziv {H:Hp} {W:Addr->Prop} {v:V} {o:O} {As:List Addr} {a:Int} (h:Ow mg K H W v o As) (e:decI o=some a):v=.int a:=by
 unfold decI at e;split at e
 .cases e;exact h.int
 .cases e
theorem zlV {H:Hp} {W:Addr->Prop} {v:V} {o:O} {As:List Addr} {a:Bool} (h:Ow mg K H W v o As) (e:decB o=some a):v=.bl a:=by
 unfold decB at e;split at e
 .cases e;exact h.bl
 .cases e
theorem zi2 {G:TF} {Q:VK} (h:tR mg K E (eOfB G) σ H Q):tG mg K E G σ H fun b H1=>Q (.bl b) H1:=by
 obtain ⟨W,ρ,f,ok,q⟩:=h;refine ⟨W,ρ,f,ok, ?_⟩;unfold eOfB at q
 cases a:G ρ with
 | bad=>rw[a] at q;exact q
 | ex c ρ'=>rw[a] at q;exact q
 | ok b ρ' q'=>
  rw[a] at q;exact fun H' W' f' s m k=>q (.bl b) H' W' f' [] s ⟨.d (.bl b),List.nodup_nil⟩ (fun x z=>nomatch z) (m.narrow fun x hx=>hx.resolve_right fun z=>nomatch z) k
theorem twoG {α:Type} {A:EF} {G:Rho->Re α} {R:V->α->Hp->Prop} {W:Addr->Prop} {ρ:Rho} {f:Fp} (ok:Ok mg K H W σ ρ f)
  (h:match A ρ with
   | .bad=>False
   | .ex c ρ'=>∀H' W' f',Sl mg K H' W' σ ρ' f'->Mv (Inn f) H W (Inn f') H' W'->XW mg K E c H'
   | .ok ra ρ1 q1=>match G ρ1 with
    | .bad=>False
    | .ex c ρ'=>∀H' W' f',Sl mg K H' W' σ ρ' f'->Mv (Inn f) H W (Inn f') H' W'->XW mg K E c H'
    | .ok b ρ2 q2=>pok ρ1 q2 ra=true/\∀v H' W' f' C,Sl mg K H' W' σ ρ2 f'->RvOk mg K H' W' σ v ra C->(∀x∈C,¬Inn f' x)->
      Mv (Inn f) H W (fun x=>Inn f' x\/x∈C) H' W'->((q1&&q2)=true->∀x,Inn f x->H' x=H x)->R v b H') :
  tR mg K E A σ H fun x H1=>tG mg K E G σ H1 fun y H2=>R x y H2:=by
 refine ⟨W,ρ,f,ok, ?_⟩
 cases a:A ρ with
 | bad=>rw[a] at h;exact h
 | ex c ρ'=>rw[a] at h;exact h
 | ok ra ρ1 q1=>
  rw[a] at h;intro v H1 W1 f1 C s1 r1 n1 m1 k1;refine ⟨W1,ρ1,f1,.next s1 m1 fun x hx=>.inl hx, ?_⟩;have hC:∀x∈C,W1 x/\¬Inn f1 x:=fun x hx=>⟨m1.sub' x (.inr hx),n1 x hx⟩
  dsimp only at h
  cases b:G ρ1 with
  | bad=>rw[b] at h;exact h
  | ex c ρ'=>
   rw[b] at h;exact fun H2 W2 f2 s2 m2=>h H2 W2 f2 s2 (m1.trans (m2.wide (fun x hx=>.inl hx) m1.sub'))
  | ok y ρ2 q2=>
   rw[b] at h;obtain ⟨hp,h⟩:=h;intro H2 W2 f2 s2 m2 k2;refine h v H2 W2 f2 C s2 (r1.on s1 hC m2 k2 hp) (fun x hx z=>m2.apart (hC x hx).1 (hC x hx).2 z) (m1.trans ⟨fun b o e n=>m2.same b o e fun z=>n (.inl z),m2.less,fun x w=>(m2.more x w).imp .inl id,fun x w=>?_,m1.sub',m2.dom,fun x w=>?_,m2.dom'⟩) (zfp ok k1 m2 k2)
   .exact w.elim (fun w=>(m2.ours x w).imp .inl id) fun w=>.inl (.inr w)
   .exact w.elim (m2.sub' x) fun w=>(m2.hand (hC x w).1 (hC x w).2).1
end
section
variable {X:Cx} {E:XK}
def eAnd (A B:EF):EF:=eOfB (zbF (eSc decB A) fun c=>if c then eSc decB B else gRet false)
def eOr (A B:EF):EF:=eOfB (zbF (eSc decB A) fun c=>if c then gRet true else eSc decB B)
def eNot (A:EF):EF:=eOfB (zbF (eSc decB A) fun c=>gRet (!c))
theorem zgv {op a pos} {A:EF} (h:VR X E a A):VR X E (.BoolOp op [a] pos) A:=znA h
theorem toB {B:EF} {σ:St} {H:Hp} {Q:Bool->Hp->Prop} (h:tG X.mg X.K E (eSc decB B) σ H Q):tR X.mg X.K E B σ H fun x H'=>∃b,x=.bl b/\Q b H':=zln zlV h
theorem tR.mono {mg:Str->Option Value} {K:PySem.W.Frag} {G:EF} {σ:St} {H:Hp} {Q Q':VK} (h:tR mg K E G σ H Q) (i:∀v H,Q v H->Q' v H):tR mg K E G σ H Q':=by
 obtain ⟨W,ρ,f,ok,q⟩:=h;refine ⟨W,ρ,f,ok, ?_⟩
 cases a:G ρ with
 | bad=>rw[a] at q;exact q
 | ex c ρ'=>rw[a] at q;exact q
 | ok r ρ1 q1=>rw[a] at q;exact fun v H' W' f' B s r n m k=>i v H' (q v H' W' f' B s r n m k)
theorem tG.mono {α:Type} {mg:Str->Option Value} {K:PySem.W.Frag} {G:Rho->Re α} {σ:St} {H:Hp} {Q Q':α->Hp->Prop} (h:tG mg K E G σ H Q) (i:∀v H,Q v H->Q' v H):tG mg K E G σ H Q':=by
 obtain ⟨W,ρ,f,ok,q⟩:=h;refine ⟨W,ρ,f,ok, ?_⟩
 cases a:G ρ with
 | bad=>rw[a] at q;exact q
 | ex c ρ'=>rw[a] at q;exact q
 | ok r ρ1 q1=>rw[a] at q;exact fun H' W' f' s m k=>i r H' (q H' W' f' s m k)
theorem zfj {a b rest pos} {A B:EF} (ha:VR X E a A) (hb:VR X E (.BoolOp .And (b::rest) pos) B):VR X E (.BoolOp .And (a::b::rest) pos) (eAnd A B):=(zn2 ha hb).imp fun σ H Q h=>by
 refine tR.mono (toB (tG.bind (zi2 h))) fun v H1 ⟨c,e,q⟩=>⟨c,e, ?_⟩
 cases c with
 | true=>exact tR.mono (toB q) fun v H2 ⟨b,e,q⟩=>by rw[e];exact q
 | false=>exact tG.ret (a:=false) (Q:=fun b H1=>Q (.bl b) H1) q
theorem zn0 {a pos} {A:EF} (ha:VR X E a A):VR X E (.UnaryOp .Not a pos) (eNot A):=(znw ha).imp fun σ H Q h=>
 tR.mono (toB (tG.bind (zi2 h))) fun v H1 ⟨c,e,q⟩=>⟨c,e,tG.ret (a:=!c) (Q:=fun b H1=>Q (.bl b) H1) q⟩
def zdA (A B C:EF) (p q:Int->Int->Bool):TF:=zbF (eSc decI A) fun a=>zbF (eSc decI B) fun b=>if p a b then zbF (eSc decI C) fun c=>gRet (q b c) else gRet false
theorem toI {B:EF} {σ:St} {H:Hp} {Q:Int->Hp->Prop} (h:tG X.mg X.K E (eSc decI B) σ H Q):tR X.mg X.K E B σ H fun x H'=>∃b,x=.int b/\Q b H':=zln ziv h
theorem zhr {A B C:EF} {p q:Int->Int->Bool} {σ:St} {H:Hp} {Q:VK} (h:tG X.mg X.K E (zdA A B C p q) σ H fun b H1=>Q (.bl b) H1) :
  zjw (rI0 fun i j=>.bl (p i j)) (rI0 fun i j=>.bl (q i j)) (tR X.mg X.K E A) (tR X.mg X.K E B) (tR X.mg X.K E C) σ H Q:=by
 refine tR.mono (toI (tG.bind h)) fun v H1 ⟨i,e,h1⟩=>tR.mono (toI (tG.bind h1)) fun u H2 hx__=>?_
 obtain ⟨j,e',h2⟩:=hx__;refine ⟨i,j,e,e',_,rfl, ?_⟩
 cases hp:p i j with
 | true=>
  rw[hp] at h2;exact tR.mono (toI (tG.bind h2)) fun w H3 ⟨k,e'',h3⟩=>⟨j,k,e',e'',tG.ret (a:=q j k) (Q:=fun b H1=>Q (.bl b) H1) h3⟩
 | false=>
  rw[hp] at h2;exact tG.ret (a:=false) (Q:=fun b H1=>Q (.bl b) H1) h2
theorem zhp {op op':CmpOp} {a b c:Expr} {pos:Pos} {A B C:EF} {p q:Int->Int->Bool} (ho:OpR X (compareOp op) (rI0 fun i j=>.bl (p i j))) (ho':OpR X (compareOp op') (rI0 fun i j=>.bl (q i j))) (ha:VR X E a A) (hb:VR X E b B) (hc:VR X E c C)
  (hm:lastMarks [op,op'] [b,c]=false:=by with_unfolding_all rfl):VR X E (.Compare a [op,op'] [b,c] pos) (eOfB (zdA A B C p q)):=(zj1 ho ho' ha hb hc hm).imp fun σ H Q h=>zhr (zi2 h)
theorem zfS {op op':CmpOp} {a b c:Expr} {pos:Pos} {A B C:EF} {p q:Int->Int->Bool} (ho:OpR X (compareOp op) (rI0 fun i j=>.bl (p i j))) (ho':OpR X (compareOp op') (rI0 fun i j=>.bl (q i j))) (ha:VR X E a A) (hb:VR X E b B) (hc:VR X E c C)
  (hm:lastMarks [op,op'] [b,c]=false:=by with_unfolding_all rfl):VT X E (.Compare a [op,op'] [b,c] pos) (zdA A B C p q):=(zjU ho ho' ha hb hc hm).imp fun σ H Q h=>zhr (tG.mono h fun b H1 q=>⟨b,rfl,q⟩)
def gAnd (S T:TF):TF:=zbF S fun c=>if c then T else gRet false
def gOr (S T:TF):TF:=zbF S fun c=>if c then gRet true else T
def gNot (S:TF):TF:=zbF S fun c=>gRet (!c)
abbrev VW (X:Cx) (E:XK) (e:Expr) (G:TF):Prop:=PW X e (tT X.mg X.K E G)
theorem PW.imp {X:Cx} {e:Expr} {t t':TT} (h:PW X e t) (i:∀σ H Q,t' σ H Q->t σ H Q):PW X e t':=fun whole pins s σ H Q I q=>h whole pins s σ H Q I (i σ H Q q)
theorem zg2 {a pos} {S:TF} (ha:VT X E a S):VW X E (.BoolOp .And [a] pos) S:=zlh ha
theorem zga {a pos} {S:TF} (ha:VT X E a S):VW X E (.BoolOp .Or [a] pos) S:=znl ha
theorem zjk {a b rest pos} {S T:TF} (ha:VT X E a S) (hb:VW X E (.BoolOp .And (b::rest) pos) T):VW X E (.BoolOp .And (a::b::rest) pos) (gAnd S T):=(znT ha hb).imp fun σ H Q h=>tG.mono (tG.bind h) fun c H1 q=>by
 cases c with
 | true=>exact q
 | false=>exact tG.ret q
theorem zfN {a b rest pos} {S T:TF} (ha:VT X E a S) (hb:VW X E (.BoolOp .Or (b::rest) pos) T):VW X E (.BoolOp .Or (a::b::rest) pos) (gOr S T):=(zo7 ha hb).imp fun σ H Q h=>tG.mono (tG.bind h) fun c H1 q=>by
 cases c with
 | false=>exact q
 | true=>exact tG.ret q
theorem vt_w {e:Expr} {S:TF} (h:VW X E e S):VT X E e S:=PW.pt h
theorem zdJ {a pos} {S:TF} (ha:VT X E a S):VT X E (.UnaryOp .Not a pos) (gNot S):=(zmj ha).imp fun σ H Q h=>tG.mono (tG.bind h) fun c H1 q=>tG.ret q
def trV:O->Option Bool
 | .d (.bool b)=>some b
 | .d (.int i)=>some (i != 0)
 | .d .none=>some false
 | .d (.str s)=>if s.length<=sizeLine then some ((s.length:Int) != 0) else none
 | o=>match els o with
  | some (_,os)=>some (!os.isEmpty)
  | none=>none
theorem znj {mg:Str->Option Value} {K:PySem.W.Frag} {H:Hp} {W:Addr->Prop} {v:V} {o:O} {As:List Addr} {b:Bool} (h:Ow mg K H W v o As) (e:trV o=some b):TruV K v H b:=by
 unfold trV at e;split at e
 .cases e;rw[h.bl];exact rfl
 .cases e;rw[h.int];exact rfl
 .cases e;rw[h.non];exact rfl
 .rename_i s
  by_cases hz:s.length<=sizeLine
  .rw[if_pos hz] at e;cases e;rw[h.str];exact ⟨hz,rfl⟩
  .rw[if_neg hz] at e;cases e
 .split at e
  .rename_i k os q;cases e;obtain ⟨a,vs,A,rfl,h2,h3,_⟩:=h.els q
   have:vs.isEmpty=os.isEmpty:=by
    have:=h3.length
    cases vs<;>cases os<;>first | rfl | simp at this
   cases k with
   | true=>exact .inl ⟨vs,SqL.of h2,by rw[this]⟩
   | false=>exact .inr (.inl ⟨vs,SqT.of h2,by rw[this]⟩)
  .cases e
theorem zey {a:Expr} {A:EF} (ha:VR X E a A) (he:∀whole,isTrue a X.env whole=(do let v <-whole;standAt a.pos;holding [v] (truthy v))):VT X E a (eSc trV A):=(zj4 ha he).imp fun σ H Q h=>by
 obtain ⟨W,ρ,f,ok,q⟩:=h;refine ⟨W,ρ,f,ok, ?_⟩;unfold eSc at q
 cases a:A ρ with
 | bad=>rw[a] at q;exact q
 | ex c ρ'=>rw[a] at q;exact q
 | ok r ρ' q'=>
  rw[a] at q;intro v H' W' f' B s rv n m k;dsimp only[Re.bind] at q
  cases e:vn ρ' r with
  | none=>rw[e] at q;exact False.elim q
  | some o=>
   rw[e] at q;dsimp only at q;obtain ⟨a1,a2⟩:=zc0 e;obtain ⟨_,ow,_⟩:=s.vw rv a1 a2
   cases e':trV o with
   | none=>rw[e'] at q;exact False.elim q
   | some b=>rw[e'] at q;exact ⟨b,znj ow e',q H' W' f' s (m.narrow fun x hx=>.inl hx) k⟩
def eIf (S:TF) (A B:EF):EF:=zg9 S fun c=>if c then A else B
theorem zpn {c a b:Expr} {pos:Pos} {S:TF} {A B:EF} (hc:VT X E c S) (ha:VR X E a A) (hb:VR X E b B):VR X E (.IfExp c a b pos) (eIf S A B):=(zke hc ha hb).imp fun σ H Q h=>tG.mono (tG.then h) fun c H1 q=>by
 cases c<;>exact q
end
def zfV (r:Rv) (k:Nat):O->Option Rv
 | .z=>none
 | .d x=>some (.own (.d x))
 | .x c=>some (.own (.x c))
 | .g c=>some (.own (.g c))
 | .q c=>some (.own (.q c))
 | o=>match r with
  | .own _=>some (.own o)
  | .at i p=>some (.at i (p++[k]))
def fIxS:O->Int->Option O
 | .d (.str s),i=>if s.length<=sizeLine then (atI s.cps.toList i).map fun c=>.d (.str ⟨#[c]⟩) else none
 | .q xs,i=>match atI xs i with
  | some (.int n)=>some (.d (.int n))
  | _=>none
 | _,_=>none
def gIx (ρ:Rho) (r:Rv) (i:Int):Option Rv:=match vn ρ r with
 | some o=>match els o with
  | some (_,os)=>match ixN os.length i with
   | some k=>match os[k]? with
    | some c=>zfV r k c
    | none=>none
   | none=>none
  | none=>(fIxS o i).map Rv.own
 | none=>none
def eIx (A B:EF):EF:=fun ρ=>(A ρ).bind fun ra ρ1 q1=>(eSc decI B ρ1).bind fun i ρ2 q2=>if pok ρ1 q2 ra then match gIx ρ2 ra i with
 | some r=>.ok r ρ2 (q1&&q2)
 | none=>.bad
 else .bad
section
variable {mg:Str->Option Value} {K:PySem.W.Frag} {H:Hp} {W:Addr->Prop} {σ:St} {ρ:Rho} {f:Fp}
theorem zlw {r r':Rv} {k:Nat} {c:O} {a:Addr} {vs:List V} {u:V} {C A:List Addr} (hr:RvOk mg K H W σ (.ref a) r C) (hv:H a=some (.lst vs)\/H a=some (.tup vs)) (hk:vs[k]? = some u) (ou:Ow mg K H W u c A) (hA:∀o,r=.own o->A.Sublist C) (e:zfV r k c=some r') :
  ∃B,RvOk mg K H W σ u r' B/\∀x∈B,x∈C:=by
 unfold zfV at e;split at e
 .cases e
 .cases e;cases ou with | d h=>exact ⟨[],⟨.d h,List.nodup_nil⟩,fun _ z=>nomatch z⟩
 .cases e;cases ou with | x h1 h2 h3 h4=>exact ⟨[],⟨.x h1 h2 h3 h4,List.nodup_nil⟩,fun _ z=>nomatch z⟩
 .cases e;cases ou with | g h1 h2=>exact ⟨[],⟨.g h1 h2,List.nodup_nil⟩,fun _ z=>nomatch z⟩
 .cases e;cases ou with | q h1=>exact ⟨[],⟨.q h1,List.nodup_nil⟩,fun _ z=>nomatch z⟩
 .cases r with
  | own o=>cases e;exact ⟨A,⟨ou,hr.2.sublist (hA o rfl)⟩,fun x hx=>(hA o rfl).subset hx⟩
  | «at» i p=>
   cases e;obtain ⟨h1,w,h2,h3⟩:=hr;exact ⟨[],⟨rfl,w,h2,h3.app ⟨a,vs,u,rfl,hv,hk,rfl⟩⟩,fun _ z=>nomatch z⟩
theorem Sl.vw2 {r:Rv} {v:V} {B:List Addr} {o:O} (s:Sl mg K H W σ ρ f) (h:RvOk mg K H W σ v r B) (e:L2.vw ρ r=some o) (nz:o≠.z):∃C,Ow mg K H W v o C/\(∀u,r=.own u->C=B):=by
 cases r with
 | own u=>cases e;exact ⟨B,h.1,fun _ _=>rfl⟩
 | «at» i p=>obtain ⟨C,h1,_⟩:=s.vw h e nz;exact ⟨C,h1,fun u z=>nomatch z⟩
end
section
variable {X:Cx} {E:XK}
theorem zaF {a b:Expr} {A B:EF} {pos:Pos} (ha:VR X E a A) (hb:VR X E b B) (hs:ziJ b):VR X E (.Subscript a b pos) (eIx A B):=(zpy zns ha hb hs).imp fun σ H Q hx__=>by
 obtain ⟨W,ρ,f,ok,q⟩:=hx__;have main:tR X.mg X.K E A σ H fun x H1=>tG X.mg X.K E (eSc decI B) σ H1 fun i H2=>rIx X.K x (.int i) H2 Q:=by
  refine twoG ok ?_;unfold eIx at q
  cases a:A ρ with
  | bad=>rw[a] at q;exact q
  | ex c ρ'=>rw[a] at q;exact q
  | ok ra ρ1 q1=>
   rw[a] at q;dsimp only[Re.bind] at q ⊢
   cases b:eSc decI B ρ1 with
   | bad=>rw[b] at q;exact q
   | ex c ρ'=>rw[b] at q;exact q
   | ok i ρ2 q2=>
    rw[b] at q;dsimp only at q ⊢
    by_cases hp:pok ρ1 q2 ra=true
    .rw[if_pos hp] at q;refine ⟨hp,fun v H' W' f' C s r n m k=>?_⟩
     cases e0:gIx ρ2 ra i with
     | none=>rw[e0] at q;exact False.elim q
     | some r'=>
      rw[e0] at q;unfold gIx at e0
      cases e1:vn ρ2 ra with
      | none=>rw[e1] at e0;cases e0
      | some o=>
       rw[e1] at e0;dsimp only at e0;obtain ⟨a1,a2⟩:=zc0 e1;obtain ⟨D,ow,hD⟩:=s.vw2 r a1 a2
       cases e2:els o with
       | none=>
        rw[e2] at e0;dsimp only at e0;unfold fIxS at e0;split at e0
        .rename_i y x
         by_cases hz:x.length<=sizeLine
         .rw[if_pos hz] at e0
          cases e3:atI x.cps.toList i with
          | none=>rw[e3] at e0;cases e0
          | some c=>
           rw[e3] at e0;cases e0;exact .inr (.inr ⟨x,i,c,ow.str,rfl,hz,e3,q _ H' W' f' [] s ⟨.d (.str _),List.nodup_nil⟩ (fun x z=>nomatch z) (m.narrow fun x hx=>.inl (hx.resolve_right fun z=>nomatch z)) k⟩)
         .rw[if_neg hz] at e0;cases e0
        .rename_i y xs
         cases e3:atI xs i with
         | none=>rw[e3] at e0;cases e0
         | some c=>
          rw[e3] at e0
          cases c with
          | int c=>
           cases e0
           cases ow with
           | q hq=>exact .inl ⟨_,xs,i,.int c,rfl,rfl,hq.sq,e3,q _ H' W' f' [] s ⟨.d (.int _),List.nodup_nil⟩ (fun x z=>nomatch z) (m.narrow fun x hx=>.inl (hx.resolve_right fun z=>nomatch z)) k⟩
          | _=>cases e0
        .cases e0
       | some z=>
        obtain ⟨kd,os⟩:=z;rw[e2] at e0;dsimp only at e0;obtain ⟨p,vs,As,rfl,h2,h3,h4⟩:=ow.els e2
        cases e3:ixN os.length i with
        | none=>rw[e3] at e0;cases e0
        | some j=>
         rw[e3] at e0;dsimp only at e0
         cases e4:os[j]? with
         | none=>rw[e4] at e0;cases e0
         | some c=>
          rw[e4] at e0;obtain ⟨u,Au,g1,g2,g3⟩:=h3.get e4;have hv:H' p=some (.lst vs)\/H' p=some (.tup vs):=by
           cases kd with
           | true=>exact .inl h2
           | false=>exact .inr h2
          obtain ⟨B',r1,in1⟩:=zlw r hv g1 g2 (fun o' z=>(hD o' z) ▸ (g3.trans h4)) e0;have qq:Q u H':=q u H' W' f' B' s r1 (fun x hx=>n x (in1 x hx)) (m.narrow fun x hx=>hx.imp id (in1 x)) k;have at':atI vs i=some u:=by unfold atI;rw[h3.length,e3];exact g1
          cases kd with
          | true=>exact .inl ⟨p,vs,i,u,rfl,rfl,SqL.of h2,at',qq⟩
          | false=>exact .inr (.inl ⟨p,vs,i,u,rfl,rfl,SqT.of h2,at',qq⟩)
    .rw[if_neg hp] at q;exact False.elim q
 exact tR.mono main fun x H1 h=>tR.mono (toI h) fun y H2 ⟨i,e,q⟩=>by rw[e];exact q
def oNo:Rho->Re (Option Int):=gRet none
def zeW (A:EF):Rho->Re (Option Int):=zbF (eSc decI A) fun i=>gRet (some i)
abbrev VO (X:Cx) (E:XK) (e:Option Expr) (G:Rho->Re (Option Int)):Prop:=PO X e (tG X.mg X.K E G)
theorem zi4:VO X E none oNo:=fun pins s σ H Q I h=>zl9 pins s σ H Q I (tG.ret (E:=E) h)
theorem ziA {e:Expr} {A:EF} (h:VR X E e A):VO X E (some e) (zeW A):=fun pins s σ H Q I q=>zlt h pins s σ H Q I (tR.mono (toI (tG.bind q)) fun x H1 ⟨i,e,q⟩=>⟨i,e,tG.ret q⟩)
def fSl (o:O) (lo hi:Option Int):Option O:=match els o with
 | some (true,os)=>match lds os with
  | some ds=>some (.l ((cutD ds lo hi).map O.d))
  | none=>none
 | some (false,os)=>match lds os with
  | some ds=>if HT.sIx ds.length 0 lo=0/\HT.sIx ds.length ds.length hi=ds.length then none else some (.d (.tuple (cutD ds lo hi)))
  | none=>none
 | _=>none
def eSl (A:EF) (L U:Rho->Re (Option Int)):EF:=fun ρ=>(A ρ).bind fun ra ρ1 q1=>(zbF L (fun l=>zbF U fun u=>gRet (l,u)) ρ1).bind fun lu ρ2 q2=>if pok ρ1 q2 ra then match vn ρ2 ra with
  | some o=>match fSl o lu.1 lu.2 with
   | some z=>.ok (.own z) ρ2 (q1&&q2)
   | none=>.bad
  | none=>.bad
 else .bad
theorem znG {e:Expr} {lo hi:Option Expr} {A:EF} {L U:Rho->Re (Option Int)} {pos p2:Pos} (he:VR X E e A) (hl:VO X E lo L) (hu:VO X E hi U):VR X E (.Subscript e (.Slice lo hi none p2) pos) (eSl A L U):=(zjZ (sl_list.or zmx) he hl hu).imp fun σ H Q hx__=>by
 obtain ⟨W,ρ,f,ok,q⟩:=hx__;have main:tR X.mg X.K E A σ H fun x H1=>tG X.mg X.K E (zbF L fun l=>zbF U fun u=>gRet (l,u)) σ H1 fun lu H2=>rSlL X.K x lu.1 lu.2 H2 Q\/rSlT X.K x lu.1 lu.2 H2 Q:=by
  refine twoG ok ?_;unfold eSl at q
  cases a:A ρ with
  | bad=>rw[a] at q;exact q
  | ex c ρ'=>rw[a] at q;exact q
  | ok ra ρ1 q1=>
   rw[a] at q;dsimp only[Re.bind] at q ⊢
   cases b:zbF L (fun l=>zbF U fun u=>gRet (l,u)) ρ1 with
   | bad=>rw[b] at q;exact q
   | ex c ρ'=>rw[b] at q;exact q
   | ok lu ρ2 q2=>
    rw[b] at q;dsimp only at q ⊢
    by_cases hp:pok ρ1 q2 ra=true
    .rw[if_pos hp] at q;refine ⟨hp,fun v H' W' f' C s r n m k=>?_⟩
     cases e1:vn ρ2 ra with
     | none=>rw[e1] at q;exact False.elim q
     | some o=>
      rw[e1] at q;dsimp only at q;obtain ⟨a1,a2⟩:=zc0 e1;obtain ⟨D,ow,_⟩:=s.vw r a1 a2
      cases e2:fSl o lu.1 lu.2 with
      | none=>rw[e2] at q;exact False.elim q
      | some z=>
       rw[e2] at q;unfold fSl at e2;split at e2
       .rename_i os e3
        cases e4:lds os with
        | none=>rw[e4] at e2;cases e2
        | some ds=>
         rw[e4] at e2;cases e2;obtain ⟨p,vs,rfl,h2,h3⟩:=ow.items e3 e4;refine .inl ⟨p,vs,rfl,SqL.of h2,fun p' hp'=>?_⟩;have g:Gr H' W' [p'] (upd H' p' (.lst (cutV vs lu.1 lu.2))) (fun x=>W' x\/x∈[p']):=.newO hp';obtain ⟨g1,g2,g3⟩:=g.fin s m fun x hx=>.inl hx
         exact q _ _ _ f' [p'] g1 ⟨.newL hp' (h3.cut lu.1 lu.2),g.nd⟩ g2 g3 fun hq=>g.quiet ok (k hq)
       .rename_i os e3
        cases e4:lds os with
        | none=>rw[e4] at e2;cases e2
        | some ds=>
         rw[e4] at e2;dsimp only at e2;obtain ⟨p,vs,rfl,h2,h3⟩:=ow.items e3 e4
         by_cases hz:HT.sIx ds.length 0 lu.1=0/\HT.sIx ds.length ds.length lu.2=ds.length
         .rw[if_pos hz] at e2;cases e2
         .rw[if_neg hz] at e2;cases e2;refine .inr ⟨p,vs,rfl,SqT.of h2,by rw[h3.length];exact hz,fun p' hp'=>?_⟩;have g:Gr H' W' [] (upd H' p' (.tup (cutV vs lu.1 lu.2))) W':=.new hp';obtain ⟨g1,g2,g3⟩:=g.fin s m fun x hx=>.inl hx
          exact q _ _ _ f' [] g1 ⟨.d (.tup (fun z=>m.dom' p' z hp') zbu ((h3.cut lu.1 lu.2).on g.d)),g.nd⟩ g2 g3 fun hq=>g.quiet ok (k hq)
       .cases e2
    .rw[if_neg hp] at q;exact False.elim q
 exact tR.mono main fun x H1 h=>tG.mono (tG.bind h) fun l H2 h2=>tG.mono (tG.bind h2) fun u H3 h3=>tG.ret h3
theorem zk1 {e m:Expr} {te:TE} {pos p2:Pos} (he:PE X e te) (hm:PE X m (tC (.int (-1))))
  (hsub:∀o i,∃ops,subscripted (.Slice none none (some m) p2) false o i=operate ops (getItem o i)):PE X (.Subscript e (.Slice none none (some m) p2) pos) (fun σ H Q=>te σ H fun x H1=>∃a xs,x=.ref a/\H1 a=some (.lst xs)/\∀p,H1 p=none->Q (.ref p) (upd H1 p (.lst xs.reverse))):=by
 intro pins s σ H Q I h;refine Subscript_ (thn (he pins s σ H _ I h) fun v s1 hx__=>?_);obtain ⟨x,H1,I1,r1,a,xs,e,hx,q⟩:=hx__;subst e;cases r1;refine wpAny_Slice ?_;rw[evalPart_none];refine wpAny_pure ?_;refine wpAny_pure ?_;rw[evalPart_some];refine thn (hm pins s1 σ H1 (fun w H'=>w=.int (-1)/\H'=H1) I1 ⟨rfl,rfl⟩) fun vk s2 hx__=>?_
 obtain ⟨w,H2,I2,r2,ew,eH⟩:=hx__;subst ew eH;obtain ⟨tk,rfl⟩:=r2;have I4:Inv X pins σ H2 { s2 with heap:=s2.heap.push { cls:=.type "slice",data:=.fields #[.none,.none,.int (-1) tk] } }:=I2.kept (t':=s2.toks) fun b ob q=>Heap.get?_push_of_some _ q
 obtain ⟨its,r,ht,hz⟩:=I4.list (SqL.of hx);have hlen:=r.length;obtain ⟨ops,hops⟩:=hsub (.ref a) (.ref s2.heap.objs.size);refine tail_any (T:="list") (ops:=ops) ht.isList.typeIs slot_list_getitem.lookup ?_ hops;refine wpAny_getItem_list_slice (st:=some (-1)) ht.isList (Heap.IsSliceOf.new ..) .none .none (.int _ _) (by decide) ?_ (by rw[List.size_toArray,<-hlen];exact hz);rw[PySem.W.krv_pick];have hv:Vals xs.reverse its.reverse:=r.reverse;exact ⟨.ref _,_,I4.lnew (t':=s2.toks) hv (by rw[List.length_reverse];exact hz),rfl,q _ I4.fresh⟩
def fRev (o:O):Option O:=match els o with
 | some (true,os)=>match lds os with
  | some ds=>some (.l (ds.reverse.map O.d))
  | none=>none
 | _=>none
theorem zm2 {e m:Expr} {A:EF} {pos p2:Pos} (he:VR X E e A) (hm:PE X m (tC (.int (-1)))) (hsub:∀o i,∃ops,subscripted (.Slice none none (some m) p2) false o i=operate ops (getItem o i)):VR X E (.Subscript e (.Slice none none (some m) p2) pos) (e1 A fRev):=
 (zk1 he hm hsub).imp fun σ H Q h=>tR.mono (vr1 (X:=X) h) fun x H1 hx__=>by
  obtain ⟨W,ox,As,z,o1,dm,hf,q⟩:=hx__;unfold fRev at hf;split at hf
  .rename_i os e3
   cases e4:lds os with
   | none=>rw[e4] at hf;cases hf
   | some ds=>
    rw[e4] at hf;cases hf;obtain ⟨p,vs,rfl,h2,h3⟩:=o1.items e3 e4;exact ⟨p,vs,rfl,h2,fun p' hp'=>q _ _ _ _ (.newO hp') (.newL hp' h3.rev)⟩
  .cases hf
def fIn (neg:Bool) (x y:O):Option O:=match fz x,fz y with
 | some d,some (.list ds)=>if SeqAt.shaped d&&SeqAt.shaped (.list ds) then some (.d (.bool (if neg then !ds.any fun y=>PyData.eqv y d else ds.any fun y=>PyData.eqv y d))) else none
 | some d,some (.tuple ds)=>if SeqAt.shaped d&&SeqAt.shaped (.tuple ds) then some (.d (.bool (if neg then !ds.any fun y=>PyData.eqv y d else ds.any fun y=>PyData.eqv y d))) else none
 | _,_=>none
def rInW (neg:Bool):R2:=fun x y H Q=>∃d ds,Dn H (fun _=>False) x d/\(Dn H (fun _=>False) y (.list ds)\/Dn H (fun _=>False) y (.tuple ds))/\SeqAt.shaped d=true/\SeqAt.shaped (.list ds)=true/\Q (.bl (if neg then !ds.any fun y=>PyData.eqv y d else ds.any fun y=>PyData.eqv y d)) H
theorem zmO (hu:X.A.units+65 < cLine):OpR X (compareOp .In) (rInW false):=by
 intro pins s σ H x y v u Q I rx ry ⟨d,ds,hx,hy,sd,ss,q⟩;obtain ⟨as,ra⟩:=hx.reads I rx;rcases hy with hy | hy
 .obtain ⟨bs,rb⟩:=hy.reads I ry;exact SeqAt.in_list_reads rb ra (SeqAt.canLay_of_shaped ss) (SeqAt.canLay_of_shaped sd) (room_in_shaped sd hu) ⟨.bl _,H,I,rfl,q⟩
 .obtain ⟨bs,rb⟩:=hy.reads I ry;exact SeqAt.in_tuple_reads rb ra (SeqAt.canLay_of_shaped ss) (SeqAt.canLay_of_shaped sd) (room_in_shaped sd hu) ⟨.bl _,H,I,rfl,q⟩
theorem znP {neg:Bool} {x y z:O} (h:fIn neg x y=some z):∃d ds,fz x=some d/\(fz y=some (.list ds)\/fz y=some (.tuple ds))/\SeqAt.shaped d=true/\SeqAt.shaped (.list ds)=true/\z=.d (.bool (if neg then !ds.any fun y=>PyData.eqv y d else ds.any fun y=>PyData.eqv y d)):=by
 unfold fIn at h;split at h
 .rename_i d ds e1 e2
  by_cases hz:(SeqAt.shaped d&&SeqAt.shaped (.list ds))=true
  .rw[if_pos hz] at h;cases h;rw[Bool.and_eq_true] at hz;exact ⟨d,ds,e1,.inl e2,hz.1,hz.2,rfl⟩
  .rw[if_neg hz] at h;cases h
 .rename_i d ds e1 e2
  by_cases hz:(SeqAt.shaped d&&SeqAt.shaped (.tuple ds))=true
  .rw[if_pos hz] at h;cases h;rw[Bool.and_eq_true] at hz;exact ⟨d,ds,e1,.inr e2,hz.1,hz.2,rfl⟩
  .rw[if_neg hz] at h;cases h
 .cases h
theorem zn4 (hu:X.A.units+65 < cLine):OpR X (compareOp .In) (rV2 X.mg X.K (fIn false)):=(zmO hu).imp fun x y H Q hx__=>by
 obtain ⟨W,ox,oy,As,Bs,z,o1,o2,dm,hf,q⟩:=hx__;obtain ⟨d,ds,e1,e2,s1,s2,rfl⟩:=znP hf;exact ⟨d,ds,o1.plain e1,e2.imp o2.plain o2.plain,s1,s2,q _ H W [] .refl (.d (.bl _))⟩
def fNeg:O->Option O
 | .d (.int i)=>some (.d (.int (-i)))
 | _=>none
theorem zna:UnR X (unaryOp .USub) (rV1 X.mg X.K fNeg):=un_neg.imp fun x H Q hx__=>by
 obtain ⟨W,ox,As,z,o1,dm,hf,q⟩:=hx__;unfold fNeg at hf;split at hf
 .cases hf;exact ⟨_,o1.int,q _ H W [] .refl (.d (.int _))⟩
 .cases hf
end
def vns (ρ:Rho):List Rv->Option (List O)
 | []=>some []
 | r::rs=>match vn ρ r,vns ρ rs with
  | some o,some os=>some (o::os)
  | _,_=>none
def eB (A:AF) (F:List O->Option O):EF:=fun ρ=>(A ρ).bind fun rs ρ1 q=>match vns ρ1 rs with
 | some os=>match F os with
  | some z=>.ok (.own z) ρ1 q
  | none=>.bad
 | none=>.bad
section
variable {mg:Str->Option Value} {K:PySem.W.Frag} {H:Hp} {W:Addr->Prop} {σ:St} {ρ:Rho} {f:Fp}
theorem zkS (s:Sl mg K H W σ ρ f):∀{rs:List Rv} {vs:List V} {g:Fp} {os:List O},Rvs mg K H W σ vs rs g->vns ρ rs=some os->vs.length=os.length/\∀(k:Nat) (o:O),os[k]? = some o->∃v As,vs[k]? = some v/\Ow mg K H W v o As
 | [],vs,g,os,h,e=>by
  cases e;refine ⟨by have:=h.len;simpa using this,fun k o z=>by simp at z⟩
 | r::rs,vs,g,os,h,e=>by
  obtain ⟨v,us,rfl,h0,ht⟩:=h.tail;rw[vns] at e
  cases a:vn ρ r with
  | none=>rw[a] at e;cases e
  | some o=>
   cases b:vns ρ rs with
   | none=>rw[a,b] at e;cases e
   | some os'=>
    rw[a,b] at e;cases e;obtain ⟨l,k⟩:=zkS s ht b;obtain ⟨a1,a2⟩:=zc0 a;obtain ⟨C,ow,_⟩:=s.vw h0 a1 a2;refine ⟨by simp[l],fun j u z=>?_⟩
    cases j with
    | zero=>cases z;exact ⟨v,C,rfl,ow⟩
    | succ j=>exact k j u z
end
section
variable {X:Cx} {E:XK}
theorem vB {A:AF} {F:List O->Option O} {σ:St} {H:Hp} {Q:VK} (h:tR X.mg X.K E (eB A F) σ H Q):tCB (rVs X.mg X.K F) (tRs X.mg X.K E A) σ H Q:=by
 obtain ⟨W,ρ,f,ok,q⟩:=h;refine ⟨W,ρ,f,ok, ?_⟩;unfold eB at q
 cases a:A ρ with
 | bad=>rw[a] at q;exact q
 | ex c ρ'=>rw[a] at q;exact q
 | ok rs ρ1 q1=>
  rw[a] at q;intro vs H' W' f' g s r n m k;dsimp only[Re.bind] at q
  cases e1:vns ρ1 rs with
  | none=>rw[e1] at q;exact False.elim q
  | some os=>
   rw[e1] at q;dsimp only at q
   cases e2:F os with
   | none=>rw[e2] at q;exact False.elim q
   | some z=>
    rw[e2] at q;obtain ⟨h1,h2⟩:=zkS s r e1;refine ⟨W',os,z,h1,h2,m.dom',e2,fun w H'' W'' B' g' ow=>?_⟩;obtain ⟨g1,g2,g3⟩:=g'.fin s m fun x hx=>.inl hx
    exact q w H'' W'' f' B' g1 ⟨ow,g'.nd⟩ g2 g3 fun hq=>g'.quiet ok (k hq)
theorem zbG {id:String} {F:List O->Option O} {x:Str} {e:Expr} {es:List Expr} {A:AF} {p pos:Pos} (hc:CallR X (.builtin id) (rVs X.mg X.K F)) (hg:Gl X x) (hm:X.mg x=none) (hv:bootBuiltins x=some (.builtin id)) (ha:VA X E (e::es) A) (hn:x≠"__name__":=by decide) (hdb:(x==("__debug__":Str))=false:=by decide)
  (he:starEach (e::es) X.env=(false,eval e X.env)::starEach es X.env:=by rfl) (hpl:(backTo pos (starEach es X.env)).any (·.1)=false:=by rfl):VR X E (.Call (.Name x p) (e::es) [] pos) (eB A F):=(zhm hc hg hm hv ha hn hdb he hpl).imp fun _ _ _ h=>vB h
theorem zd8 {T:String} {F:List O->Option O} {x:Str} {e:Expr} {es:List Expr} {A:AF} {p pos:Pos} (hc:CallR X (.type T) (rVs X.mg X.K F)) (hg:Gl X x) (hm:X.mg x=none) (hv:bootBuiltins x=some (.type T)) (ha:VA X E (e::es) A) (hn:x≠"__name__":=by decide) (hdb:(x==("__debug__":Str))=false:=by decide)
  (he:starEach (e::es) X.env=(false,eval e X.env)::starEach es X.env:=by rfl) (hpl:(backTo pos (starEach es X.env)).any (·.1)=false:=by rfl):VR X E (.Call (.Name x p) (e::es) [] pos) (eB A F):=(zjH hc hg hm hv ha hn hdb he hpl).imp fun _ _ _ h=>vB h
def f1 (F:O->Option O):List O->Option O
 | [o]=>F o
 | _=>none
theorem cv1 {f:Value} {r:List V->Hp->VK->Prop} {F:O->Option O} (h:CallR X f r) (i:∀x H Q,rV1 X.mg X.K F x H Q->r [x] H Q):CallR X f (rVs X.mg X.K (f1 F)):=h.imp fun xs H Q hx__=>by
 obtain ⟨W,os,z,hl,ho,dm,hf,q⟩:=hx__;unfold f1 at hf;split at hf
 .rename_i o;obtain ⟨v,As,e,ow⟩:=ho 0 o rfl
  cases xs with
  | nil=>cases e
  | cons x xs=>
   cases e
   cases xs with
   | nil=>exact i _ H Q ⟨W,o,As,z,ow,dm,hf,q⟩
   | cons y ys=>simp at hl
 .cases hf
def f2I (F:Int->Int->Int):List O->Option O
 | [.d (.int a),.d (.int b)]=>some (.d (.int (F a b)))
 | _=>none
theorem cv2I {f:Value} {F:Int->Int->Int} (h:CallR X f (fun xs H Q=>∃i j,xs=[.int i,.int j]/\Q (.int (F i j)) H)):CallR X f (rVs X.mg X.K (f2I F)):=h.imp fun xs H Q hx__=>by
 obtain ⟨W,os,z,hl,ho,dm,hf,q⟩:=hx__;unfold f2I at hf;split at hf
 .rename_i a b;cases hf;obtain ⟨v,As,e,ow⟩:=ho 0 _ rfl;obtain ⟨v',As',e',ow'⟩:=ho 1 _ rfl
  cases xs with
  | nil=>cases e
  | cons x xs=>
   cases xs with
   | nil=>cases e'
   | cons y xs=>
    cases xs with
    | nil=>
     cases e
     cases e'
     exact ⟨a,b,by rw[ow.int,ow'.int],q _ H W [] .refl (.d (.int _))⟩
    | cons=>cases hl
 .cases hf
def zjP:O->Option O
 | .q xs=>some (.d (.int xs.length))
 | _=>none
def fLen (o:O):Option O:=match els o with
 | some (_,os)=>some (.d (.int os.length))
 | none=>zjP o
theorem zeb:CallR X (.builtin "len") (rVs X.mg X.K (f1 fLen)):=cv1 zf5 fun x H Q hx__=>by
 obtain ⟨W,ox,As,z,o1,dm,hf,q⟩:=hx__;unfold fLen at hf;split at hf
 .rename_i k os e;cases hf;obtain ⟨a,vs,A,rfl,h2,h3,_⟩:=o1.els e;refine ⟨a,vs,rfl, ?_,by rw[h3.length];exact q _ H W [] .refl (.d (.int _))⟩
  cases k with
  | true=>exact .inl (SqL.of h2)
  | false=>exact .inr (SqT.of h2)
 .unfold zjP at hf;split at hf
  .cases hf
   cases o1 with
   | q h=>exact ⟨_,_,rfl,.inl h.sq,q _ H W [] .refl (.d (.int _))⟩
  .cases hf
def zeF (o:O):Option O:=match els o with
 | some (_,os)=>match lds os with
  | some ds=>some (.l (ds.map O.d))
  | none=>none
 | none=>none
theorem zha:CallR X (.type "list") (rVs X.mg X.K (f1 zeF)):=cv1 zgk fun x H Q hx__=>by
 obtain ⟨W,ox,As,z,o1,dm,hf,q⟩:=hx__;unfold zeF at hf;split at hf
 .rename_i k os e
  cases e4:lds os with
  | none=>rw[e4] at hf;cases hf
  | some ds=>
   rw[e4] at hf;cases hf;obtain ⟨a,vs,rfl,h2,h3⟩:=o1.items e e4;refine ⟨a,vs,rfl, ?_,fun l hl=>q _ _ _ _ (.newO hl) (.newL hl h3)⟩
   cases k with
   | true=>exact .inl (SqL.of h2)
   | false=>exact .inr (SqT.of h2)
 .cases hf
def dIs:List PyData->Option (List Int)
 | []=>some []
 | .int i::ds=>(dIs ds).map (i::·)
 | _=>none
theorem zku:∀{ds:List PyData} {ns:List Int},dIs ds=some ns->ds=ns.map PyData.int
 | [],ns,e=>by cases e;rfl
 | .int i::ds,ns,e=>by
  rw[dIs] at e
  cases q:dIs ds with
  | none=>rw[q] at e;cases e
  | some xs=>rw[q] at e;cases e;rw[zku q];rfl
 | .none::_,_,e=>by cases e
 | .bool _::_,_,e=>by cases e
 | .str _::_,_,e=>by cases e
 | .list _::_,_,e=>by cases e
 | .tuple _::_,_,e=>by cases e
 | .dict _::_,_,e=>by cases e
def zsOf (o:O):Option (List Int):=match fz o with
 | some (.list ds)=>dIs ds
 | _=>none
theorem zk5 {o:O} {ns:List Int} (h:zsOf o=some ns):fz o=some (.list (ns.map PyData.int)):=by
 unfold zsOf at h;split at h
 .rename_i ds e;rw[e,zku h]
 .cases h
def fSum (o:O):Option O:=(zsOf o).map fun ns=>.d (.int ns.sum)
theorem ziu (hc:X.calm=true):CallR X (.builtin "sum") (rVs X.mg X.K (f1 fSum)):=cv1 (zi3 hc) fun x H Q hx__=>by
 obtain ⟨W,ox,As,z,o1,dm,hf,q⟩:=hx__;unfold fSum at hf
 cases e:zsOf ox with
 | none=>rw[e] at hf;cases hf
 | some ns=>
  rw[e] at hf;cases hf;exact ⟨x,_,ns,rfl,o1.plain (zk5 e),q _ H W [] .refl (.d (.int _))⟩
theorem zlZ (hc:X.calm=true):CallR X (.builtin "max") (rVs X.mg X.K (f2I fun i j=>if j > i then j else i)):=cv2I (ziq hc)
def zjh:O->Option O
 | .d (.int i)=>some (.d (.int i))
 | .d (.bool b)=>some (.d (.int (if b then 1 else 0)))
 | _=>none
theorem znJ:CallR X (.type "int") (rVs X.mg X.K (f1 zjh)):=cv1 ziT fun x H Q hx__=>by
 obtain ⟨W,ox,As,z,o1,dm,hf,q⟩:=hx__;unfold zjh at hf;split at hf
 .cases hf;exact .inl ⟨_,by rw[o1.int],q _ H W [] .refl (.d (.int _))⟩
 .cases hf;exact .inr ⟨_,by rw[o1.bl],q _ H W [] .refl (.d (.int _))⟩
 .cases hf
def tyN:O->Option String
 | .d .none=>some "NoneType"
 | .d (.bool _)=>some "bool"
 | .d (.int _)=>some "int"
 | .d (.str _)=>some "str"
 | .d (.list _)=>some "list"
 | .d (.tuple _)=>some "tuple"
 | .l _=>some "list"
 | .t _=>some "tuple"
 | _=>none
theorem znC {mg:Str->Option Value} {K:PySem.W.Frag} {H:Hp} {W:Addr->Prop} {v:V} {o:O} {As:List Addr} {T:String} (h:Ow mg K H W v o As) (e:tyN o=some T):TyOf K H v (.type T):=by
 unfold tyN at e;split at e
 .cases e;rw[h.non];exact .non
 .cases e;rw[h.bl];exact .bl _
 .cases e;rw[h.int];exact .int _
 .cases e;rw[h.str];exact .str _
 .cases e;cases h with | d h=>cases h with | lst _ h _=>exact .lst h
 .cases e;cases h with | d h=>cases h with | tup _ h _=>exact .tup h
 .cases e;cases h with | l h _=>exact .lst h
 .cases e;cases h with | t _ h _=>exact .tup h
 .cases e
def subT (T U:String):Bool:=T==U || (T=="bool"&&U=="int")
def fIsi (U:String) (o:O):Option O:=match tyN o with
 | some T=>some (.d (.bool (subT T U)))
 | none=>none
theorem zlm {K:PySem.W.Frag} {T U:String} (hT:T∈["NoneType","bool","int","str","list","tuple"]) (hU:U∈["bool","int","list","tuple","str"]):PySem.W.kitOne K (.type T) (.type U)=some (subT T U):=by
 simp only[List.mem_cons,List.not_mem_nil,or_false] at hT hU;rcases hT with rfl | rfl | rfl | rfl | rfl | rfl<;>rcases hU with rfl | rfl | rfl | rfl | rfl<;>rfl
theorem zkX {o:O} {T:String} (e:tyN o=some T):T∈["NoneType","bool","int","str","list","tuple"]:=by
 unfold tyN at e;split at e<;>cases e<;>simp
theorem zht {x U:Str} {T:String} {e:Expr} {A:EF} {p np pos:Pos} (hg:Gl X "isinstance") (hm:X.mg "isinstance"=none) (hU:PE X (.Name U np) (tC (.ty T))) (hT:T∈["bool","int","list","tuple","str"]) (he:VR X E e A)
  (hs:starEach [e,.Name U np] X.env=(false,eval e X.env)::starEach [.Name U np] X.env:=by rfl) (hpl:(backTo pos (starEach [.Name U np] X.env)).any (·.1)=false:=by rfl) :
  VR X E (.Call (.Name "isinstance" p) [e,.Name U np] [] pos) (e1 A (fIsi T)):=
 (zhm zj2 hg hm PyProof.Rows.boot_isinstance (zb7 he (zb7 hU zdo) hs) (by decide) (by decide) hs hpl).imp fun σ H Q h=>tR.mono (vr1 (X:=X) h) fun x H1 hx__=>by
  obtain ⟨W,ox,As,z,o1,dm,hf,q⟩:=hx__;unfold fIsi at hf
  cases e:tyN ox with
  | none=>rw[e] at hf;cases hf
  | some S=>
   rw[e] at hf;cases hf;exact ⟨x,T,_,_,rfl,znC o1 e,zlm (zkX e) hT,q _ H1 W [] .refl (.d (.bl _))⟩
def zij:O->Option O
 | .d (.int i)=>some (.d (.int (Builtin.Int.intBits i)))
 | _=>none
theorem zk2 {o:Expr} {A:EF} {apos cpos:Pos} (ho:VR X E o A) (h:PE X (.Call (.Attribute o "bit_length" apos) [] [] cpos) (tBM0 X.K "int" (fun x xs H Q=>∃i,x=.int i/\xs=[]/\Q (.int (Builtin.Int.intBits i)) H) (tR X.mg X.K E A))) :
  VR X E (.Call (.Attribute o "bit_length" apos) [] [] cpos) (e1 A zij):=h.imp fun σ H Q h=>tR.mono (vr1 (X:=X) h) fun x H1 hx__=>by
  obtain ⟨W,ox,As,z,o1,dm,hf,q⟩:=hx__;unfold zij at hf;split at hf
  .cases hf;rw[o1.int];exact ⟨rfl,_,rfl,rfl,q _ H1 W [] .refl (.d (.int _))⟩
  .cases hf
end
section
variable (mg:Str->Option Value) (K:PySem.W.Frag) (E:XK) (L:List Nat)
def Held (σ σ':St):Prop:=σ'.length=σ.length/\∀i∈L,σ'[i]? = σ[i]?
def kS (D:Ends) (σ:St) (H:Hp) (W:Addr->Prop) (f:Fp):Rt->Prop
 | .bad=>False
 | .nx ρ'=>∀σ' H' W' f',Sl mg K H' W' σ' ρ' f'->Mv (Inn f) H W (Inn f') H' W'->Held L σ σ'->D.nx σ' H'
 | .br ρ'=>∀σ' H' W' f',Sl mg K H' W' σ' ρ' f'->Mv (Inn f) H W (Inn f') H' W'->Held L σ σ'->D.bk σ' H'
 | .ct ρ'=>∀σ' H' W' f',Sl mg K H' W' σ' ρ' f'->Mv (Inn f) H W (Inn f') H' W'->Held L σ σ'->D.ct σ' H'
 | .rt o ρ'=>∀v σ' H' W' f' B,Sl mg K H' W' σ' ρ' f'->Ow mg K H' W' v o B->B.Nodup->(∀x∈B,¬Inn f' x)->Mv (Inn f) H W (fun x=>Inn f' x\/x∈B) H' W'->Held L σ σ'->D.rt v H'
 | .ex c ρ'=>∀σ' H' W' f',Sl mg K H' W' σ' ρ' f'->Mv (Inn f) H W (Inn f') H' W'->Held L σ σ'->XW mg K E c H'
def tS (G:SF):TS:=fun D σ H=>∃W ρ f,Ok mg K H W σ ρ f/\kS mg K E L D σ H W f (G ρ)
end
abbrev VS (X:Cx) (E:XK) (L:List Nat) (st:Stmt) (G:SF):Prop:=PS X st (tS X.mg X.K E L G)
abbrev VSs (X:Cx) (E:XK) (L:List Nat) (st:List Stmt) (G:SF):Prop:=PSs X st (tS X.mg X.K E L G)
theorem PS.imp {X:Cx} {e:Stmt} {t t':TS} (h:PS X e t) (i:∀D σ H,t' D σ H->t D σ H):PS X e t':=fun pins s σ H D I q=>h pins s σ H D I (i D σ H q)
theorem PSs.imp {X:Cx} {e:List Stmt} {t t':TS} (h:PSs X e t) (i:∀D σ H,t' D σ H->t D σ H):PSs X e t':=fun pins s σ H D I q=>h pins s σ H D I (i D σ H q)
theorem Held.refl {L:List Nat} {σ:St}:Held L σ σ:=⟨rfl,fun _ _=>rfl⟩
theorem Held.trans {L:List Nat} {σ σ1 σ2:St} (a:Held L σ σ1) (b:Held L σ1 σ2):Held L σ σ2:=⟨b.1.trans a.1,fun i hi=>(b.2 i hi).trans (a.2 i hi)⟩
theorem tS.from {mg:Str->Option Value} {K:PySem.W.Frag} {E:XK} {L:List Nat} {G:SF} {D:Ends} {σ σ1:St} {H H1:Hp} {W W1:Addr->Prop} {ρ1:Rho} {f f1:Fp}
  (s1:Sl mg K H1 W1 σ1 ρ1 f1) (m1:Mv (Inn f) H W (Inn f1) H1 W1) (l1:Held L σ σ1)
  (q:kS mg K E L D σ H W f (G ρ1)):tS mg K E L G D σ1 H1:=by
 refine ⟨W1,ρ1,f1,.next s1 m1 fun _ z=>z, ?_⟩
 cases a:G ρ1 with
 | bad=>rw[a] at q;exact q
 | nx ρ'=>rw[a] at q;exact fun σ' H' W' f' s m l=>q σ' H' W' f' s (m1.trans m) (l1.trans l)
 | br ρ'=>rw[a] at q;exact fun σ' H' W' f' s m l=>q σ' H' W' f' s (m1.trans m) (l1.trans l)
 | ct ρ'=>rw[a] at q;exact fun σ' H' W' f' s m l=>q σ' H' W' f' s (m1.trans m) (l1.trans l)
 | rt o ρ'=>rw[a] at q;exact fun v σ' H' W' f' B s o nd ap m l=>q v σ' H' W' f' B s o nd ap (m1.trans m) (l1.trans l)
 | ex c ρ'=>rw[a] at q;exact fun σ' H' W' f' s m l=>q σ' H' W' f' s (m1.trans m) (l1.trans l)
def sNil:SF:=fun ρ=>.nx ρ
def sSeq (S T:SF):SF:=fun ρ=>match S ρ with
 | .nx ρ'=>T ρ'
 | r=>r
section
variable {X:Cx} {E:XK} {L:List Nat}
theorem zaT:VSs X E L [] sNil:=pss_nil.imp fun D σ H hx__=>by obtain ⟨W,ρ,f,ok,q⟩:=hx__;exact q σ H W f ok.s (.refl ok.sub ok.dom) .refl
theorem zaj {st:Stmt} {S:SF} (h:VS X E L st S):VSs X E L [st] S:=zl4 h
theorem zaf {st:Stmt} {rest:List Stmt} {S T:SF} (h1:VS X E L st S) (h2:VSs X E L rest T):VSs X E L (st::rest) (sSeq S T):=(zkl h1 h2).imp fun D σ H hx__=>by
 obtain ⟨W,ρ,f,ok,q⟩:=hx__;refine ⟨W,ρ,f,ok, ?_⟩;unfold sSeq at q
 cases a:S ρ with
 | bad=>rw[a] at q;exact q
 | nx ρ1=>rw[a] at q;exact fun σ1 H1 W1 f1 s1 m1 l1=>tS.from s1 m1 l1 q
 | br ρ'=>rw[a] at q;exact q
 | ct ρ'=>rw[a] at q;exact q
 | rt o ρ'=>rw[a] at q;exact q
 | ex c ρ'=>rw[a] at q;exact q
def sBrk:SF:=fun ρ=>.br ρ
theorem zjO {pos:Pos}:VS X E L (.Break pos) sBrk:=ps_break.imp fun D σ H hx__=>by obtain ⟨W,ρ,f,ok,q⟩:=hx__;exact q σ H W f ok.s (.refl ok.sub ok.dom) .refl
def zcW (A:EF):SF:=fun ρ=>match A ρ with
 | .bad=>.bad
 | .ok _ ρ' _=>.nx ρ'
 | .ex c ρ'=>.ex c ρ'
theorem zcM {e:Expr} {A:EF} {pos:Pos} (he:VR X E e A) (hs:swapsWith e none pos.line X.env=pure false:=by rfl):VS X E L (.Expr e pos) (zcW A):=(zlk he hs).imp fun D σ H hx__=>by
 obtain ⟨W,ρ,f,ok,q⟩:=hx__;refine ⟨W,ρ,f,ok, ?_⟩;unfold zcW at q
 cases a:A ρ with
 | bad=>rw[a] at q;exact q
 | ex c ρ'=>rw[a] at q;exact fun H' W' f' s m=>q σ H' W' f' s m .refl
 | ok r ρ' k=>rw[a] at q;exact fun v H' W' f' B s r n m k=>q σ H' W' f' s (m.narrow fun x hx=>.inl hx) .refl
def sRet (take:Rho->Rv->Option (O×Rho)) (A:EF):SF:=fun ρ=>match A ρ with
 | .bad=>.bad
 | .ok r ρ' _=>match take ρ' r with
  | some (o,ρ'')=>.rt o ρ''
  | none=>.bad
 | .ex c ρ'=>.ex c ρ'
def zgd (take:Rho->Rv->Option (O×Rho)):Prop:=∀{mg:Str->Option Value} {K:PySem.W.Frag} {H:Hp} {W:Addr->Prop} {σ:St} {ρ ρ':Rho} {f:Fp} {r:Rv} {v:V} {B:List Addr} {o:O},Sl mg K H W σ ρ f->(∀x,Inn f x->W x)->RvOk mg K H W σ v r B->(∀x∈B,W x/\¬Inn f x)->take ρ r=some (o,ρ')->
  ∃W' f',Sl mg K H W' σ ρ' f'/\Gv W f W' f'/\∃B',Ow mg K H W' v o B'/\B'.Nodup/\∀x∈B',(x∈B\/Inn f x)/\W' x/\¬Inn f' x
theorem zar:zgd mov:=@zkR
theorem zah:zgd coe:=fun s sb h hB e=>by
 obtain ⟨W',f',s',g,B',h1,h2,h3⟩:=ze3 s sb h e;exact ⟨W',f',s',g,B',h1,h2,fun x hx=>⟨.inl (h3 x hx),(g.more x (hB x (h3 x hx)).1).resolve_left (hB x (h3 x hx)).2,fun z=>(hB x (h3 x hx)).2 (g.ours x z)⟩⟩
theorem zhE {take:Rho->Rv->Option (O×Rho)} (ht:zgd take) {mg:Str->Option Value} {K:PySem.W.Frag} {A:EF} {σ:St} {H:Hp} {W:Addr->Prop} {ρ:Rho} {f:Fp} {R:V->Hp->Prop} (ok:Ok mg K H W σ ρ f)
  (h:match A ρ with
   | .bad=>False
   | .ex c ρ'=>∀H' W' f',Sl mg K H' W' σ ρ' f'->Mv (Inn f) H W (Inn f') H' W'->XW mg K E c H'
   | .ok r ρ1 q=>match take ρ1 r with
    | none=>False
    | some (o,ρ2)=>∀v H' W' f' As,Sl mg K H' W' σ ρ2 f'->Ow mg K H' W' v o As->As.Nodup->(∀x∈As,¬Inn f' x)->Mv (Inn f) H W (fun x=>Inn f' x\/x∈As) H' W'->R v H') :
  tR mg K E A σ H R:=by
 refine ⟨W,ρ,f,ok, ?_⟩
 cases a:A ρ with
 | bad=>rw[a] at h;exact h
 | ex c ρ'=>rw[a] at h;exact h
 | ok r ρ1 q=>
  rw[a] at h;intro v H1 W1 f1 B s1 r1 n1 m1 k1;dsimp only at h
  cases b:take ρ1 r with
  | none=>rw[b] at h;exact h.elim
  | some z=>
   obtain ⟨o,ρ2⟩:=z;rw[b] at h;obtain ⟨W2,f2,s2,g2,As,o2,nd2,in2⟩:=ht s1 (fun x hx=>m1.sub' x (.inl hx)) r1 (fun x hx=>⟨m1.sub' x (.inr hx),n1 x hx⟩) b;exact h v H1 W2 f2 As s2 o2 nd2 (fun x hx=>(in2 x hx).2.2) (m1.trans (g2.mv (fun x hx=>.inl hx) m1.sub' m1.dom' fun x hx=>⟨(in2 x hx).1.elim .inr .inl,(in2 x hx).2.1⟩))
theorem zaH {take:Rho->Rv->Option (O×Rho)} {e:Expr} {A:EF} {pos:Pos} (ht:zgd take) (he:VR X E e A):VS X E L (.Return (some e) pos) (sRet take A):=(znI he).imp fun D σ H hx__=>by
 obtain ⟨W,ρ,f,ok,q⟩:=hx__;refine zhE ht ok ?_;unfold sRet at q
 cases a:A ρ with
 | bad=>rw[a] at q;exact q
 | ex c ρ'=>rw[a] at q;exact fun H' W' f' s m=>q σ H' W' f' s m .refl
 | ok r ρ' k=>
  rw[a] at q;dsimp only at q ⊢
  cases b:take ρ' r with
  | none=>rw[b] at q;exact q
  | some z=>obtain ⟨o,ρ''⟩:=z;rw[b] at q;exact fun v H' W' f' As s o nd ap m=>q v σ H' W' f' As s o nd ap m .refl
def zpd:SF:=fun ρ=>.rt (.d .none) ρ
def sIf (T:TF) (S U:SF):SF:=fun ρ=>match T ρ with
 | .bad=>.bad
 | .ok b ρ' _=>if b then S ρ' else U ρ'
 | .ex c ρ'=>.ex c ρ'
theorem zcx {c:Expr} {a b:List Stmt} {T:TF} {S U:SF} {pos:Pos} (hc:VT X E c T) (ha:VSs X E L a S) (hb:VSs X E L b U):VS X E L (.If c a b pos) (sIf T S U):=(zpx hc ha hb).imp fun D σ H hx__=>by
 obtain ⟨W,ρ,f,ok,q⟩:=hx__;refine ⟨W,ρ,f,ok, ?_⟩;unfold sIf at q
 cases e:T ρ with
 | bad=>rw[e] at q;exact q
 | ex c ρ'=>rw[e] at q;exact fun H' W' f' s m=>q σ H' W' f' s m .refl
 | ok b ρ1 k=>
  rw[e] at q;intro H1 W1 f1 s1 m1 k1
  cases b with
  | true=>exact tS.from s1 m1 .refl q
  | false=>exact tS.from s1 m1 .refl q
abbrev GF:=O->Rho->Option Rho
section
variable (mg:Str->Option Value) (K:PySem.W.Frag) (L:List Nat)
def tTg (G:GF):TG:=fun v σ H Q=>∃W ρ f o B ρ',Sl mg K H W σ ρ f/\Ow mg K H W v o B/\B.Nodup/\(∀x∈B,¬Inn f x)/\(∀x,Inn f x\/x∈B->W x)/\(∀x,W x->H x≠none)/\G o ρ=some ρ'/\
 ∀σ' f',Sl mg K H W σ' ρ' f'->(∀x,Inn f' x->Inn f x\/x∈B)->Held L σ σ'->Q σ' H
def tGs (G:List O->Rho->Option Rho):TGs:=fun vs σ H Q=>∃W ρ f os B ρ',Sl mg K H W σ ρ f/\Ows mg K H W vs os B/\B.Nodup/\(∀x∈B,¬Inn f x)/\(∀x,Inn f x\/x∈B->W x)/\(∀x,W x->H x≠none)/\G os ρ=some ρ'/\
 ∀σ' f',Sl mg K H W σ' ρ' f'->(∀x,Inn f' x->Inn f x\/x∈B)->Held L σ σ'->Q σ' H
end
abbrev VG (X:Cx) (L:List Nat) (e:Expr) (G:GF):Prop:=PG X e (tTg X.mg X.K L G)
abbrev VGs (X:Cx) (L:List Nat) (es:List Expr) (G:List O->Rho->Option Rho):Prop:=PGs X es (tGs X.mg X.K L G)
def gtN (i:Nat):GF:=fun o ρ=>if i < ρ.length then some (ρ.set i o) else none
theorem Sl.bind {mg:Str->Option Value} {K:PySem.W.Frag} {H:Hp} {W:Addr->Prop} {σ:St} {ρ:Rho} {f:Fp} {o:O} {v:V} {B:List Addr} (i:Nat) (s:Sl mg K H W σ ρ f) (h:Ow mg K H W v o B) (nd:B.Nodup) (ap:∀x∈B,¬Inn f x) (hi:i < ρ.length) :
  Sl mg K H W (σ.set i (some v)) (ρ.set i o) (fset f i B):=s.set hi h nd fun x hx j _ z=>ap x hx ⟨j,z⟩
theorem zfO {i:Nat} {σ:St} {x:Option V} (h:i∉L):Held L σ (σ.set i x):=⟨List.length_set,fun j hj=>List.getElem?_set_ne (fun z:i=j=>h (z ▸ hj))⟩
theorem zan {i:Nat} {x:Str} {pos:Pos} (h:PG X (.Name x pos) (zhW i)) (hL:i∉L):VG X L (.Name x pos) (gtN i):=fun pins s σ H v u Q I r hx__=>by
 obtain ⟨W,ρ,f,o,B,ρ',sl,ow,nd,ap,sb,dm,e,q⟩:=hx__;refine h pins s σ H v u Q I r ?_;unfold gtN at e
 by_cases hi:i < ρ.length
 .rw[if_pos hi] at e;cases e;exact q _ _ (sl.bind i ow nd ap hi) (fun x hx=>hx.set) (zfO hL)
 .rw[if_neg hi] at e;cases e
def zbD:List O->Rho->Option Rho:=fun os ρ=>match os with | []=>some ρ | _=>none
def zam (G:GF) (R:List O->Rho->Option Rho):List O->Rho->Option Rho:=fun os ρ=>match os with
 | o::os=>match G o ρ with
  | some ρ1=>R os ρ1
  | none=>none
 | []=>none
theorem zbU:VGs X L [] zbD:=fun pins s σ H vs us Q I r hx__=>by
 obtain ⟨W,ρ,f,os,B,ρ',sl,ow,nd,ap,sb,dm,e,q⟩:=hx__
 cases os with
 | nil=>cases ow;cases e;exact zkY pins s σ H [] us Q I r ⟨rfl,q σ f sl (fun x hx=>.inl hx) .refl⟩
 | cons o os=>cases e
theorem zat {e:Expr} {es:List Expr} {G:GF} {R:List O->Rho->Option Rho} (h1:VG X L e G) (h2:VGs X L es R) (hs:(assignEach (e::es) X.env).map (·.2)=assign e X.env::(assignEach es X.env).map (·.2):=by rfl):VGs X L (e::es) (zam G R):=
 fun pins s σ H vs us Q I r hx__=>by
  obtain ⟨W,ρ,f,os,B,ρ',sl,ow,nd,ap,sb,dm,e,q⟩:=hx__;refine zj6 h1 h2 hs pins s σ H vs us Q I r ?_;unfold zam at e
  cases ow with
  | nil=>cases e
  | @cons v o vs os A C a b=>
   dsimp only at e
   cases z:G o ρ with
   | none=>rw[z] at e;cases e
   | some ρ1=>
    rw[z] at e;obtain ⟨nA,nC,dj⟩:=List.nodup_append.mp nd;refine ⟨v,vs,rfl,W,ρ,f,o,A,ρ1,sl,a,nA,fun x hx=>ap x (List.mem_append_left _ hx),fun x hx=>sb x (hx.imp id (List.mem_append_left _)),dm,z,fun σ1 f1 sl1 in1 l1=>?_⟩;refine ⟨W,ρ1,f1,os,C,ρ',sl1,b,nC,fun x hx y=>?_,fun x hx=>?_,dm,e,fun σ2 f2 sl2 in2 l2=>q σ2 f2 sl2 (fun x hx=>?_) (l1.trans l2)⟩
    .rcases in1 x y with y | y
     .exact ap x (List.mem_append_right _ hx) y
     .exact dj x y x hx rfl
    .rcases hx with hx | hx
     .exact sb x ((in1 x hx).imp id (List.mem_append_left _))
     .exact sb x (.inr (List.mem_append_right _ hx))
    .rcases in2 x hx with hx | hx
     .exact (in1 x hx).imp id (List.mem_append_left _)
     .exact .inr (List.mem_append_right _ hx)
def gtT (R:List O->Rho->Option Rho):GF:=fun o ρ=>match els o with
 | some (false,os)=>R os ρ
 | _=>none
theorem zcD {es:List Expr} {k:Nat} {R:List O->Rho->Option Rho} {pos:Pos} (hc:X.calm=true) (h:VGs X L es R) (n:Nat) (hR:∀os ρ ρ',R os ρ=some ρ'->os.length=n)
  (hn:(assignEach es X.env).length=n:=by rfl) (hst:(assignEach es X.env).findIdx? (·.1)=none:=by rfl):VG X L (.Tuple es k pos) (gtT R):=fun pins s σ H v u Q I r hx__=>by
 obtain ⟨W,ρ,f,o,B,ρ',sl,ow,nd,ap,sb,dm,e,q⟩:=hx__;refine znh hc h hn hst pins s σ H v u Q I r ?_;unfold gtT at e
 cases z:els o with
 | none=>rw[z] at e;cases e
 | some y=>
  obtain ⟨b,os⟩:=y;rw[z] at e
  cases b with
  | true=>cases e
  | false=>
   obtain ⟨a,vs,A,rfl,h2,h3,h4⟩:=ow.els z;exact ⟨a,vs,rfl,SqT.of h2,by rw[h3.length];exact hR os ρ ρ' e,W,ρ,f,os,A,ρ',sl,h3,nd.sublist h4,fun x hx=>ap x (h4.subset hx),fun x hx=>sb x (hx.imp id (fun z=>h4.subset z)),dm,e,fun σ' f' s' i' l'=>q σ' f' s' (fun x hx=>(i' x hx).imp id (fun z=>h4.subset z)) l'⟩
theorem zaX {os:List O} {ρ ρ':Rho} (h:zbD os ρ=some ρ'):os.length=0:=by
 unfold zbD at h;split at h
 .rfl
 .cases h
theorem zal {G:GF} {R:List O->Rho->Option Rho} {n:Nat} (hR:∀os ρ ρ',R os ρ=some ρ'->os.length=n):∀os ρ ρ',zam G R os ρ=some ρ'->os.length=n+1:=fun os ρ ρ' h=>by
 unfold zam at h;split at h
 .split at h
  .rw[List.length_cons,hR _ _ _ h]
  .cases h
 .cases h
def sAsg (take:Rho->Rv->Option (O×Rho)) (A:EF) (G:GF):SF:=fun ρ=>match A ρ with
 | .bad=>.bad
 | .ok r ρ' _=>match take ρ' r with
  | some (o,ρ1)=>match G o ρ1 with
   | some ρ2=>.nx ρ2
   | none=>.bad
  | none=>.bad
 | .ex c ρ'=>.ex c ρ'
theorem zjv {take:Rho->Rv->Option (O×Rho)} (ht:zgd take) {A:EF} {G:GF} {D:Ends} {σ:St} {H:Hp} (h:tS X.mg X.K E L (sAsg take A G) D σ H):tAsg (tR X.mg X.K E A) (tTg X.mg X.K L G) D σ H:=by
 obtain ⟨W,ρ,f,ok,q⟩:=h;refine zhE ht ok ?_;unfold sAsg at q
 cases a:A ρ with
 | bad=>rw[a] at q;exact q
 | ex c ρ'=>rw[a] at q;exact fun H' W' f' s m=>q σ H' W' f' s m .refl
 | ok r ρ' k=>
  rw[a] at q;dsimp only at q ⊢
  cases b:take ρ' r with
  | none=>rw[b] at q;exact q
  | some z=>
   obtain ⟨o,ρ''⟩:=z;rw[b] at q;dsimp only at q ⊢
   cases c:G o ρ'' with
   | none=>rw[c] at q;exact False.elim q
   | some ρ2=>
    rw[c] at q;exact fun v H' W' f' As s ow nd ap m=>⟨W',ρ'',f',o,As,ρ2,s,ow,nd,ap,m.sub',m.dom',c,fun σ' f2 s2 i2 l2=>q σ' H' W' f2 s2 (m.narrow i2) l2⟩
theorem zeZ {take:Rho->Rv->Option (O×Rho)} {tg e:Expr} {A:EF} {G:GF} {pos:Pos} (ht:zgd take) (he:VR X E e A) (hg:VG X L tg G) (hs:swapsWithSole [tg] e pos.line X.env=pure false:=by rfl) (hw:swappedStores [tg] e X.env=pure none:=by rfl)
  (h1:(assignEach [tg] X.env).map (·.2)=[assign tg X.env]:=by rfl):VS X E L (.Assign [tg] e pos) (sAsg take A G):=(zkB he hg hs hw h1).imp fun D σ H h=>zjv ht h
theorem zaz {take:Rho->Rv->Option (O×Rho)} {i:Nat} {x:Str} {e:Expr} {A:EF} {pos pos':Pos} (ht:zgd take) (hN:X.N.Nodup) (hi:X.N[i]? = some x) (hx:Loc X.env.scope x) (hL:i∉L) (he:VR X E e A) (hs:swapsWith e (some (.Name x pos')) pos.line X.env=pure false:=by rfl) (hf:X.fn x=true\/X.env.scope.names.lookup x=some .local:=by first | exact .inl rfl | exact .inr rfl | assumption) :
  VS X E L (.Assign [.Name x pos'] e pos) (sAsg take A (gtN i)):=(zm1 hN hi hx he hs hf).imp fun D σ H h=>tR.mono (zjv ht h) fun v H1 hx__=>by
 obtain ⟨W,ρ,f,o,B,ρ',sl,ow,nd,ap,sb,dm,e,q⟩:=hx__;unfold gtN at e
 by_cases hi:i < ρ.length
 .rw[if_pos hi] at e;cases e;exact q _ _ (sl.bind i ow nd ap hi) (fun x hx=>hx.set) (zfO hL)
 .rw[if_neg hi] at e;cases e
end
section
variable {mg:Str->Option Value} {K:PySem.W.Frag} {H:Hp} {W:Addr->Prop} {σ:St} {ρ:Rho} {f:Fp}
theorem Sl.put {i:Nat} {p:List Nat} {oi:O} {os os':List O} {a:Addr} {u:V} {vs':List V} {A:List Addr} (s:Sl mg K H W σ ρ f) (sb:∀x,Inn f x->W x) (hi:ρ[i]? = some oi) (hu:σ[i]? = some (some u)) (hv:VAt H p u (.ref a)) (hs:sub p oi=some (.l os))
  (hA:∀x∈A,¬Inn f x)
  (h:∀vs B,Ows mg K H W vs os B->H a=some (.lst vs)->B.Nodup->a∉B->(∀x∈B,Inn f x)->Inn f a->∃C,Ows mg K (upd H a (.lst vs')) W vs' os' C/\C.Nodup/\a∉C/\∀x∈C,x∈B\/x∈A) :
  Inn f a/\∃f',Sl mg K (upd H a (.lst vs')) W σ (ρ.set i (put p (.l os') oi)) f'/\∀x,Inn f' x->Inn f x\/x∈A:=by
 rcases s.sl i oi hi with ⟨rfl,_⟩ | ⟨u',h1,ow⟩
 .cases p<;>cases hs
 .rw[hu] at h1;cases h1;have hin:a∈f i:=by
   obtain ⟨v',C,k1,k2,k3⟩:=ow.sub hs
   cases k1.inj hv
   cases k2 with
   | l _ _=>exact k3.subset List.mem_cons_self
  have ha:W a:=sb a ⟨i,hin⟩;obtain ⟨C,c1,c2,c3,_⟩:=ow.put (s.fam.nd i) hs hv ha (fun vs B x1 x2 x3 x4 x5=>h vs B x1 x2 x3 x4 (fun x hx=>⟨i,x5 x hx⟩) ⟨i,hin⟩) (fun x hx z=>hA x hx ⟨i,z⟩);have m:DMv H W (upd H a (.lst vs')) W:=fun c ob hc nc=>⟨by rw[zaB (fun z=>nc (by rw[z];exact ha))];exact hc,nc⟩
  refine ⟨⟨i,hin⟩,fset f i C,⟨fun j o e=>?_,fun j hj=>?_,by rw[List.length_set];exact s.len,s.fam.set c2 fun x hx j hj z=>?_⟩,fun x hx=>?_⟩
  .by_cases q:j=i
   .subst q;have hl:j < ρ.length:=(List.getElem?_eq_some_iff.mp hi).1;rw[List.getElem?_set_self hl] at e;cases e;exact .inr ⟨u,hu,by rw[za8];exact c1⟩
   .rw[List.getElem?_set_ne (Ne.symm q)] at e;rw[zbs q];exact (s.sl j o e).imp id fun ⟨v,g1,g2⟩=>⟨v,g1,g2.on m fun x hx=>zaB fun z=>s.fam.ap j i q x hx (z ▸ hin)⟩
  .rw[List.length_set] at hj;have hl:i < ρ.length:=(List.getElem?_eq_some_iff.mp hi).1;rw[zbs (by omega)];exact s.no j hj
  .rcases c3 x hx with y | y
   .exact s.fam.ap i j (Ne.symm hj) x y z
   .exact hA x y ⟨j,z⟩
  .rcases hx.set with hx | hx
   .exact .inl hx
   .exact (c3 x hx).imp (fun z=>⟨i,z⟩) id
end
def zdz (ρ:Rho) (r:Rv) (h:List O->Option (List O)):Option Rho:=match r with
 | .own (.l os)=>(h os).map fun _=>ρ
 | .own _=>none
 | .at i p=>match ρ[i]? with
  | some oi=>match sub p oi with
   | some (.l os)=>match h os with
    | some os'=>some (ρ.set i (put p (.l os') oi))
    | none=>none
   | _=>none
  | none=>none
section
variable {mg:Str->Option Value} {K:PySem.W.Frag} {H:Hp} {W:Addr->Prop} {σ:St} {ρ ρ':Rho} {f:Fp}
theorem zhy {r:Rv} {v:V} {C A:List Addr} {g:List O->Option (List O)} {hv:List V->List V} (s:Sl mg K H W σ ρ f) (sb:∀x,Inn f x\/x∈C\/x∈A->W x) (dm:∀x,W x->H x≠none) (hr:RvOk mg K H W σ v r C) (hC:∀x∈C,¬Inn f x) (hA:∀x∈A,¬Inn f x) (hCA:∀x∈C,x∉A) (e:zdz ρ r g=some ρ')
  (h:∀(H':Hp) vs os os' B,g os=some os'->DMv H W H' W->(∀x∈B,H' x=H x)->(∀x∈A,H' x=H x)->Ows mg K H W vs os B->B.Nodup->(∀x∈A,x∉B)->∃D,Ows mg K H' W (hv vs) os' D/\D.Nodup/\∀x∈D,x∈B\/x∈A) :
  ∃a vs os os',v=.ref a/\H a=some (.lst vs)/\g os=some os'/\vs.length=os.length/\(Inn f a\/a∈C)/\∃f',Sl mg K (upd H a (.lst (hv vs))) W σ ρ' f'/\∀x,Inn f' x->Inn f x\/x∈A:=by
 cases r with
 | own o=>
  cases o with
  | l os=>
   rw[zdz] at e
   cases e1:g os with
   | none=>rw[e1] at e;cases e
   | some os'=>
    rw[e1] at e;cases e
    cases hr.1 with
    | @l a vs _ As h1 h2=>
     have hw:W a:=sb a (.inr (.inl List.mem_cons_self));refine ⟨a,vs,os,os',rfl,h1,e1,h2.length,.inr List.mem_cons_self,f,s.on (fun c ob hc nc=>⟨by rw[zaB (fun z=>nc (by rw[z];exact hw))];exact hc,nc⟩) fun x hx=>zaB fun z=>hC a List.mem_cons_self (z ▸ hx),fun x hx=>.inl hx⟩
  | _=>cases e
 | «at» i p=>
  rw[zdz] at e
  cases e1:ρ[i]? with
  | none=>rw[e1] at e;cases e
  | some oi=>
   rw[e1] at e;dsimp only at e
   cases e2:sub p oi with
   | none=>rw[e2] at e;cases e
   | some n=>
    rw[e2] at e
    cases n with
    | l os=>
     dsimp only at e
     cases e3:g os with
     | none=>rw[e3] at e;cases e
     | some os'=>
      rw[e3] at e;cases e;obtain ⟨_,u,h1,h2⟩:=hr;rcases s.sl i oi e1 with ⟨rfl,_⟩ | ⟨u',g1,ow⟩
      .cases p<;>cases e2
      .rw[h1] at g1;cases g1;obtain ⟨w,D,k1,k2,k3⟩:=ow.sub e2
       cases k1.inj h2
       cases k2 with
       | @l a vs _ As hl ht=>
        have sb':∀x,Inn f x->W x:=fun x hx=>sb x (.inl hx)
        have hw:W a:=sb' a ⟨i,k3.subset List.mem_cons_self⟩;obtain ⟨hin,f',p1,p2⟩:=s.put (os':=os') (vs':=hv vs) (A:=A) sb' e1 h1 h2 e2 hA fun vs2 B o2 hvs nd na inB ina=>by
         rw[hl] at hvs;cases hvs;obtain ⟨D',d1,d2,d3⟩:=h (upd H a (.lst (hv vs))) vs os os' B e3 (fun c ob hc nc=>⟨by rw[zaB (fun z=>nc (by rw[z];exact hw))];exact hc,nc⟩) (fun x hx=>zaB fun z=>na (z ▸ hx)) (fun x hx=>zaB fun z=>hA x hx (z ▸ ina)) o2 nd fun x hx z=>hA x hx (inB x z)
         exact ⟨D',d1,d2,fun z=>(d3 a z).elim na fun y=>hA a y ina,d3⟩
        exact ⟨a,vs,os,os',rfl,hl,e3,ht.length,.inl hin,f',p1,p2⟩
    | _=>cases e
end
section
variable {X:Cx} {E:XK} {L:List Nat}
theorem twoT {mg:Str->Option Value} {K:PySem.W.Frag} {σ:St} {H:Hp} {A B:EF} {T:V->Hp->Prop} {R:V->V->Hp->Prop} {W:Addr->Prop} {ρ:Rho} {f:Fp} (ok:Ok mg K H W σ ρ f)
  (h:match A ρ with
   | .bad=>False
   | .ex c ρ'=>∀H' W' f',Sl mg K H' W' σ ρ' f'->Mv (Inn f) H W (Inn f') H' W'->XW mg K E c H'
   | .ok ra ρ1 q1=>(∀v H' W' f' C,Sl mg K H' W' σ ρ1 f'->RvOk mg K H' W' σ v ra C->T v H')/\match B ρ1 with
    | .bad=>False
    | .ex c ρ'=>∀H' W' f',Sl mg K H' W' σ ρ' f'->Mv (Inn f) H W (Inn f') H' W'->XW mg K E c H'
    | .ok rb ρ2 q2=>pok ρ1 q2 ra=true/\∀v u H' W' f' C D,Sl mg K H' W' σ ρ2 f'->RvOk mg K H' W' σ v ra C->RvOk mg K H' W' σ u rb D->(∀x∈C,¬Inn f' x)->(∀x∈D,¬Inn f' x)->(∀x∈C,x∉D)->
      Mv (Inn f) H W (fun x=>Inn f' x\/x∈C\/x∈D) H' W'->R v u H') :
  tR mg K E A σ H fun x H1=>T x H1/\tR mg K E B σ H1 fun y H2=>R x y H2:=by
 refine ⟨W,ρ,f,ok, ?_⟩
 cases a:A ρ with
 | bad=>rw[a] at h;exact h
 | ex c ρ'=>rw[a] at h;exact h
 | ok ra ρ1 q1=>
  rw[a] at h;intro v H1 W1 f1 C s1 r1 n1 m1 k1;have ok1:Ok mg K H1 W1 σ ρ1 f1:=⟨s1,fun x hx=>m1.sub' x (.inl hx),m1.dom'⟩;refine ⟨h.1 v H1 W1 f1 C s1 r1,W1,ρ1,f1,ok1, ?_⟩;have h:=h.2;have hC:∀x∈C,W1 x/\¬Inn f1 x:=fun x hx=>⟨m1.sub' x (.inr hx),n1 x hx⟩
  cases b:B ρ1 with
  | bad=>rw[b] at h;exact h
  | ex c ρ'=>
   rw[b] at h;exact fun H2 W2 f2 s2 m2=>h H2 W2 f2 s2 (m1.trans (m2.wide (fun x hx=>.inl hx) m1.sub'))
  | ok rb ρ2 q2=>
   rw[b] at h;obtain ⟨hp,h⟩:=h;intro u H2 W2 f2 D s2 r2 n2 m2 k2;have m2':Mv (fun x=>Inn f1 x\/x∈C) H1 W1 (fun x=>Inn f2 x\/x∈C\/x∈D) H2 W2:=
    ⟨fun b o e n=>m2.same b o e fun z=>n (.inl z),m2.less,fun x w=>(m2.more x w).imp .inl id,fun x w=>by
     rcases w with w | w | w
     .exact (m2.ours x (.inl w)).imp .inl id
     .exact .inl (.inr w)
     .exact (m2.ours x (.inr w)).imp .inl id,m1.sub',m2.dom,fun x w=>by
     rcases w with w | w | w
     .exact m2.sub' x (.inl w)
     .exact (m2.hand (hC x w).1 (hC x w).2).1
     .exact m2.sub' x (.inr w),m2.dom'⟩
   exact h v u H2 W2 f2 C D s2 (r1.on s1 hC m2 k2 hp) r2 (fun x hx z=>m2.apart (hC x hx).1 (hC x hx).2 (.inl z)) n2 (fun x hx z=>m2.apart (hC x hx).1 (hC x hx).2 (.inr z)) (m1.trans m2')
def isL (ρ:Rho) (r:Rv):Bool:=match vn ρ r with
 | some o=>match els o with
  | some (true,_)=>true
  | _=>false
 | none=>false
theorem zmo {mg:Str->Option Value} {K:PySem.W.Frag} {H:Hp} {W:Addr->Prop} {σ:St} {ρ:Rho} {f:Fp} {v:V} {r:Rv} {B:List Addr} (h:isL ρ r=true) (s:Sl mg K H W σ ρ f) (hr:RvOk mg K H W σ v r B):tyV K "list" v H:=by
 unfold isL at h
 cases e:vn ρ r with
 | none=>rw[e] at h;cases h
 | some o=>
  rw[e] at h;dsimp only at h;obtain ⟨a1,a2⟩:=zc0 e;obtain ⟨C,ow,_⟩:=s.vw hr a1 a2
  cases e2:els o with
  | none=>rw[e2] at h;cases h
  | some z=>
   obtain ⟨k,os⟩:=z;rw[e2] at h
   cases k with
   | false=>cases h
   | true=>
    obtain ⟨a,vs,A,rfl,h2,h3,_⟩:=ow.els e2;exact .inl ⟨rfl,vs,SqL.of h2⟩
def eApp (C A:EF):EF:=fun ρ=>(C ρ).bind fun rc ρ1 q1=>if isL ρ1 rc then (A ρ1).bind fun ra ρ2 q2=>if pok ρ1 q2 rc then match coe ρ2 ra with
  | some (o,ρ3)=>match zdz ρ3 rc fun os=>if os.length < sizeLine then some (os++[o]) else none with
   | some ρ4=>.ok (.own (.d .none)) ρ4 false
   | none=>.bad
  | none=>.bad
 else .bad else .bad
theorem zmY {c e:Expr} {C A:EF} {apos cpos:Pos} (hc:VR X E c C) (he:VR X E e A) (h:PE X (.Call (.Attribute c "append" apos) [e] [] cpos) (tBM X.K "list" zgY (tR X.mg X.K E C) (zj9 (tR X.mg X.K E A) tNil))):VR X E (.Call (.Attribute c "append" apos) [e] [] cpos) (eApp C A):=h.imp fun σ H Q hx__=>by
 obtain ⟨W,ρ,f,ok,q⟩:=hx__;refine twoT (T:=tyV X.K "list") ok ?_;unfold eApp at q
 cases a:C ρ with
 | bad=>rw[a] at q;exact q
 | ex c ρ'=>rw[a] at q;exact q
 | ok rc ρ1 q1=>
  rw[a] at q;dsimp only[Re.bind] at q ⊢
  by_cases hl:isL ρ1 rc=true
  .rw[if_pos hl] at q;refine ⟨fun v H' W' f' C s r=>zmo hl s r, ?_⟩
   cases b:A ρ1 with
   | bad=>rw[b] at q;exact q
   | ex c ρ'=>rw[b] at q;exact q
   | ok ra ρ2 q2=>
    rw[b] at q;dsimp only at q ⊢
    by_cases hp:pok ρ1 q2 rc=true
    .rw[if_pos hp] at q;refine ⟨hp,fun v u H' W' f' C D s r1 r2 n1 n2 n3 m=>?_⟩
     cases e1:coe ρ2 ra with
     | none=>rw[e1] at q;exact False.elim q
     | some z=>
      obtain ⟨o,ρ3⟩:=z;rw[e1] at q;dsimp only at q
      cases e2:zdz ρ3 rc fun os=>if os.length < sizeLine then some (os++[o]) else none with
      | none=>rw[e2] at q;exact False.elim q
      | some ρ4=>
       rw[e2] at q;obtain ⟨W3,f3,s3,g3,B,ow,nd,inB⟩:=ze3 s (fun x hx=>m.sub' x (.inl hx)) r2 e1;have keep:∀x,(x∈C\/x∈B)->W3 x/\¬Inn f3 x:=fun x hx=>by
        have hx':x∈C\/x∈D:=hx.imp id (inB x);have nf:¬Inn f' x:=hx'.elim (n1 x) (n2 x);exact ⟨(g3.more x (m.sub' x (.inr hx'))).resolve_left nf,fun z=>nf (g3.ours x z)⟩
       obtain ⟨p,vs,os,os',rfl,h1,h2,h3,h4,f4,s4,in4⟩:=zhy (hv:=fun vs=>vs++[u]) s3 (fun x hx=>hx.elim (g3.sub x) fun hx=>(keep x hx).1) (fun x hx=>m.dom' x (g3.less x hx)) (r1.weak g3.less) (fun x hx=>(keep x (.inl hx)).2) (fun x hx=>(keep x (.inr hx)).2) (fun x hx z=>n3 x hx (inB x z)) e2 (fun H2 vs os os' B' ho dm hB' hA ows ndB dj=>by
        by_cases hz:os.length < sizeLine
        .rw[if_pos hz] at ho;cases ho;refine ⟨B'++(B++[]),Ows.app (ows.on dm hB') (.cons (ow.on dm hA) .nil), ?_,fun x hx=>?_⟩
         .rw[List.append_nil];exact List.nodup_append.mpr ⟨ndB,nd,fun x hx y hy z=>dj y hy (z ▸ hx)⟩
         .rw[List.append_nil] at hx;exact List.mem_append.mp hx
        .rw[if_neg hz] at ho;cases ho)
       have hlen:vs.length < sizeLine:=by
        by_cases hz:os.length < sizeLine
        .rw[h3];exact hz
        .rw[if_neg hz] at h2;cases h2
       refine ⟨p,vs,u,rfl,rfl,h1,hlen,q .non _ W3 f4 [] s4 ⟨.d .non,List.nodup_nil⟩ (fun x z=>nomatch z) ?_ (fun z=>nomatch z)⟩;have mg3:Mv (fun x=>Inn f' x\/x∈C\/x∈D) H' W' (fun x=>Inn f3 x\/x∈C\/x∈B) H' W3:=
        ⟨fun _ _ h _=>h,fun x h=>.inl (g3.less x h),fun x h=>(g3.more x h).imp .inl id,fun x h=>.inl (h.imp (g3.ours x) fun z=>z.imp id (inB x)),m.sub',m.dom',fun x h=>h.elim (g3.sub x) fun z=>(keep x z).1,fun x h=>m.dom' x (g3.less x h)⟩
       refine ((m.trans mg3).trans (Mv.put (o:=.lst (vs++[u])) mg3.sub' mg3.dom' (h4.imp id .inl))).narrow fun x hx=>?_
       exact (in4 x (hx.resolve_right fun z=>nomatch z)).imp id .inr
    .rw[if_neg hp] at q;exact False.elim q
  .rw[if_neg hl] at q;exact False.elim q
def sSub (take:Rho->Rv->Option (O×Rho)) (A C B:EF):SF:=fun ρ=>match A ρ with
 | .bad=>.bad
 | .ex c ρ'=>.ex c ρ'
 | .ok r ρ' _=>match take ρ' r with
  | none=>.bad
  | some (o,ρ1)=>match C ρ1 with
   | .bad=>.bad
   | .ex c ρ'=>.ex c ρ'
   | .ok rc ρ2 _=>match eSc decI B ρ2 with
    | .bad=>.bad
    | .ex c ρ'=>.ex c ρ'
    | .ok k ρ3 q3=>if pok ρ2 q3 rc then match zdz ρ3 rc fun os=>(ixN os.length k).map fun j=>os.set j o with
      | some ρ4=>.nx ρ4
      | none=>.bad
     else .bad
theorem Ows.setAt {mg:Str->Option Value} {K:PySem.W.Frag} {H:Hp} {W:Addr->Prop}:∀{vs:List V} {os:List O} {As:List Addr} {k:Nat} {v:V} {o:O} {A:List Addr},Ows mg K H W vs os As->Ow mg K H W v o A->As.Nodup->A.Nodup->(∀x∈A,x∉As)->∃D,Ows mg K H W (vs.set k v) (os.set k o) D/\D.Nodup/\∀x∈D,x∈As\/x∈A
 | _,_,_,k,_,_,_,.nil,_,_,_,_=>⟨[],.nil,List.nodup_nil,fun _ z=>nomatch z⟩
 | _,_,_,0,v,o,A,.cons (A:=B) (B:=C) a b,h,nd,nA,dj=>by
  obtain ⟨n1,n2,n3⟩:=List.nodup_append.mp nd;refine ⟨A++C,.cons h b,List.nodup_append.mpr ⟨nA,n2,fun x hx y hy z=>dj x hx (List.mem_append_right _ (z ▸ hy))⟩,fun x hx=>?_⟩;exact (List.mem_append.mp hx).elim .inr fun z=>.inl (List.mem_append_right _ z)
 | _,_,_,k+1,v,o,A,.cons (A:=B) (B:=C) a b,h,nd,nA,dj=>by
  obtain ⟨n1,n2,n3⟩:=List.nodup_append.mp nd;obtain ⟨D,d1,d2,d3⟩:=Ows.setAt (k:=k) b h n2 nA fun x hx z=>dj x hx (List.mem_append_right _ z)
  refine ⟨B++D,.cons a d1,List.nodup_append.mpr ⟨n1,d2,fun x hx y hy z=>?_⟩,fun x hx=>?_⟩
  .subst z;rcases d3 x hy with q | q
   .exact n3 x hx x q rfl
   .exact dj x q (List.mem_append_left _ hx)
  .rcases List.mem_append.mp hx with q | q
   .exact .inl (List.mem_append_left _ q)
   .exact (d3 x q).imp (List.mem_append_right _) id
theorem zd7 {take:Rho->Rv->Option (O×Rho)} {c b e:Expr} {A C B:EF} {pos pos':Pos} (ht:zgd take) (he:VR X E e A) (hc:VR X E c C) (hb:VR X E b B)
  (hs:swapsWithSole [.Subscript c b pos'] e pos.line X.env=pure false:=by rfl) (hw:swappedStores [.Subscript c b pos'] e X.env=pure none:=by rfl)
  (h1:(assignEach [.Subscript c b pos'] X.env).map (·.2)=[assign (.Subscript c b pos') X.env]:=by rfl)
  (ha:∀v,assign (.Subscript c b pos') X.env v=(do
   let ov <-holding [v] (eval c X.env)
   let iv <-holding [v,ov] (eval b X.env)
   standAt pos'
   holding [v,ov,iv] (setItem ov iv v)
   release [v,ov,iv] []):=by intro _;rfl):VS X E L (.Assign [.Subscript c b pos'] e pos) (sSub take A C B):=(zkB he (zmn hc hb zkj ha) hs hw h1).imp fun D σ H hx__=>by
 obtain ⟨W,ρ,f,ok,q⟩:=hx__;refine zhE ht ok ?_;unfold sSub at q
 cases a:A ρ with
 | bad=>rw[a] at q;exact q
 | ex c ρ'=>rw[a] at q;exact fun H' W' f' s m=>q σ H' W' f' s m .refl
 | ok r ρ' k0=>
  rw[a] at q;dsimp only at q ⊢
  cases b0:take ρ' r with
  | none=>rw[b0] at q;exact q
  | some z=>
   obtain ⟨o,ρ1⟩:=z;rw[b0] at q;dsimp only at q ⊢;intro v H1 W1 f1 As s1 ow nd ap m1;have ok1:Ok X.mg X.K H1 W1 σ ρ1 f1:=⟨s1,fun x hx=>m1.sub' x (.inl hx),m1.dom'⟩;have hAs:∀x∈As,W1 x/\¬Inn f1 x:=fun x hx=>⟨m1.sub' x (.inr hx),ap x hx⟩
   have wid:∀{H':Hp} {W':Addr->Prop} {f':Fp},Mv (Inn f1) H1 W1 (Inn f') H' W'->Mv (Inn f) H W (Inn f') H' W':=fun m=>m1.trans (m.wide (fun x hx=>.inl hx) m1.sub')
   refine tR.mono (twoG (G:=eSc decI B) (R:=fun x k H2=>znD x (.int k) v H2 fun H3=>D.nx σ H3) ok1 ?_) fun x H2 h2=>tR.mono (toI h2) fun y H3 ⟨k,e,h3⟩=>by rw[e];exact h3
   cases c0:C ρ1 with
   | bad=>rw[c0] at q;exact q
   | ex c ρ'=>rw[c0] at q;exact fun H' W' f' s m=>q σ H' W' f' s (wid m) .refl
   | ok rc ρ2 q2=>
    rw[c0] at q;dsimp only at q ⊢
    cases d0:eSc decI B ρ2 with
    | bad=>rw[d0] at q;exact q
    | ex c ρ'=>rw[d0] at q;exact fun H' W' f' s m=>q σ H' W' f' s (wid m) .refl
    | ok k ρ3 q3=>
     rw[d0] at q;dsimp only at q ⊢
     by_cases hp:pok ρ2 q3 rc=true
     .rw[if_pos hp] at q;refine ⟨hp,fun u H2 W2 f2 Cc s2 r2 n2 m2 _=>?_⟩
      cases e2:zdz ρ3 rc fun os=>(ixN os.length k).map fun j=>os.set j o with
      | none=>rw[e2] at q;exact False.elim q
      | some ρ4=>
       rw[e2] at q;have hAs2:∀x∈As,W2 x/\H2 x=H1 x:=fun x hx=>m2.hand (hAs x hx).1 (hAs x hx).2
       have ap2:∀x∈As,¬(Inn f2 x\/x∈Cc):=fun x hx=>m2.apart (hAs x hx).1 (hAs x hx).2
       have ow2:Ow X.mg X.K H2 W2 v o As:=ow.on m2.d fun x hx=>(hAs2 x hx).2
       have pick:∀{os os':List O},(ixN os.length k).map (fun j=>os.set j o)=some os'->∃j,ixN os.length k=some j/\os'=os.set j o:=fun {os os'} h=>by
        cases e:ixN os.length k with
        | none=>rw[e] at h;cases h
        | some j=>rw[e] at h;cases h;exact ⟨j,rfl,rfl⟩
       obtain ⟨p,vs,os,os',rfl,h1,h2,h3,h4,f4,s4,in4⟩:=zhy (A:=As) (hv:=fun vs=>vs.set ((ixN vs.length k).getD 0) v) s2 (fun x hx=>hx.elim (fun z=>m2.sub' x (.inl z)) fun hx=>hx.elim (fun z=>m2.sub' x (.inr z)) fun z=>(hAs2 x z).1) m2.dom' r2 n2 (fun x hx z=>ap2 x hx (.inl z)) (fun x hx z=>ap2 x z (.inr hx)) e2 (fun H3 vs os os' B' ho dm hB' hA ows ndB dj=>by
        obtain ⟨j,e,rfl⟩:=pick ho;rw[ows.length,e];exact Ows.setAt (ows.on dm hB') (ow2.on dm hA) ndB nd dj)
       obtain ⟨j,e,rfl⟩:=pick h2;rw[h3,e] at s4;refine ⟨p,vs,k,j,rfl,rfl,h1,by rw[h3];exact e,q σ _ W2 f4 s4 ?_ .refl⟩;have mw:Mv (fun x=>Inn f1 x\/x∈As) H1 W1 (fun x=>(Inn f2 x\/x∈Cc)\/x∈As) H2 W2:=
        ⟨fun b o e n=>m2.same b o e fun z=>n (.inl z),m2.less,fun x w=>(m2.more x w).imp .inl id,fun x w=>w.elim (fun w=>(m2.ours x w).imp .inl id) fun w=>.inl (.inr w),m1.sub',m2.dom,fun x w=>w.elim (m2.sub' x) fun w=>(hAs2 x w).1,m2.dom'⟩
       exact ((m1.trans mw).trans (Mv.put (o:=.lst (vs.set j v)) mw.sub' mw.dom' (.inl h4))).narrow fun x hx=>(in4 x hx).imp .inl id
     .rw[if_neg hp] at q;exact False.elim q
end
def Aft (mg:Str->Option Value) (K:PySem.W.Frag) (E:XK) (L:List Nat) (D:Ends) (σ:St) (H:Hp) (W:Addr->Prop) (f:Fp):Rt->Prop
 | .bad=>False
 | .nx ρ'=>∀σ' H' W' f',Sl mg K H' W' σ' ρ' f'->Mv (Inn f) H W (Inn f') H' W'->Held L σ σ'->D.nx σ' H'
 | .br ρ'=>∀σ' H' W' f',Sl mg K H' W' σ' ρ' f'->Mv (Inn f) H W (Inn f') H' W'->Held L σ σ'->D.bk σ' H'
 | .ct ρ'=>∀σ' H' W' f',Sl mg K H' W' σ' ρ' f'->Mv (Inn f) H W (Inn f') H' W'->Held L σ σ'->D.ct σ' H'
 | .rt o ρ'=>∀v σ' H' W' f' B,Sl mg K H' W' σ' ρ' f'->Ow mg K H' W' v o B->B.Nodup->(∀x∈B,¬Inn f' x)->Mv (Inn f) H W (fun x=>Inn f' x\/x∈B) H' W'->Held L σ σ'->D.rt v H'
 | .ex c ρ'=>∀σ' H' W' f',Sl mg K H' W' σ' ρ' f'->Mv (Inn f) H W (Inn f') H' W'->Held L σ σ'->XW mg K E c H'
def forF (G:GF) (S:SF):List O->Rho->Rt
 | [],ρ=>.nx ρ
 | x::xs,ρ=>match G x ρ with
  | none=>.bad
  | some ρ1=>match S ρ1 with
   | .nx ρ2=>forF G S xs ρ2
   | .ct ρ2=>forF G S xs ρ2
   | .br ρ2=>.nx ρ2
   | r=>r
section
variable {mg:Str->Option Value} {K:PySem.W.Frag} {E:XK} {L:List Nat}
theorem tS.aft {G:SF} {D:Ends} {σ:St} {H:Hp} (h:tS mg K E L G D σ H):∃W ρ f,Ok mg K H W σ ρ f/\Aft mg K E L D σ H W f (G ρ):=by
 obtain ⟨W,ρ,f,ok,q⟩:=h;refine ⟨W,ρ,f,ok, ?_⟩
 cases a:G ρ<;>rw[a] at q<;>exact q
theorem tS.mk {G:SF} {D:Ends} {σ:St} {H:Hp} {W:Addr->Prop} {ρ:Rho} {f:Fp} (ok:Ok mg K H W σ ρ f) (q:Aft mg K E L D σ H W f (G ρ)):tS mg K E L G D σ H:=by
 refine ⟨W,ρ,f,ok, ?_⟩
 cases a:G ρ<;>rw[a] at q<;>exact q
theorem Aft.step {D:Ends} {σ σ1:St} {H H1:Hp} {W W1:Addr->Prop} {f f1:Fp} {r:Rt} (q:Aft mg K E L D σ H W f r) (m1:Mv (Inn f) H W (Inn f1) H1 W1) (l1:Held L σ σ1):Aft mg K E L D σ1 H1 W1 f1 r:=by
 cases r with
 | bad=>exact q
 | nx ρ'=>exact fun σ' H' W' f' s m l=>q σ' H' W' f' s (m1.trans m) (l1.trans l)
 | br ρ'=>exact fun σ' H' W' f' s m l=>q σ' H' W' f' s (m1.trans m) (l1.trans l)
 | ct ρ'=>exact fun σ' H' W' f' s m l=>q σ' H' W' f' s (m1.trans m) (l1.trans l)
 | rt o ρ'=>exact fun v σ' H' W' f' B s o nd ap m l=>q v σ' H' W' f' B s o nd ap (m1.trans m) (l1.trans l)
 | ex c ρ'=>exact fun σ' H' W' f' s m l=>q σ' H' W' f' s (m1.trans m) (l1.trans l)
theorem zeJ {J:It} {items:List O} {G:GF} {S:SF} {D:Ends} {σ:St} {H1:Hp} {W1:Addr->Prop} {ρ1:Rho} {f1:Fp} (ok:Ok mg K H1 W1 σ ρ1 f1)
  (go:∀i H W',(∃A',Mv (Inn f1) H1 W1 A' H W')->i < items.length->J.go i H) (stop:∀H W',(∃A',Mv (Inn f1) H1 W1 A' H W')->J.stop items.length H)
  (yl:∀i H W' x H',(∃A',Mv (Inn f1) H1 W1 A' H W')->(∀x,W' x->H x≠none)->i < items.length->J.yld i H x H'->Gr H W' [] H' W'/\∃o,items[i]? = some o/\Ow mg K H' W' x o [])
  (q:Aft mg K E L D σ H1 W1 f1 (forF G S items ρ1)) :
  ∃W:Nat->Nat->St->Hp->Prop,(∃m,W 0 m σ H1)/\∀i m σ H,W i m σ H->
   (J.stop i H/\D.nx σ H)\/(J.go i H/\∃N:St->Hp->Prop,(∀σ' H',N σ' H'->∃m',m' < m/\W (i+1) m' σ' H')/\∀x H',J.yld i H x H'->tTg mg K L G x σ H' fun σ2 H2=>tS mg K E L S { D with nx:=N,ct:=N,bk:=D.nx } σ2 H2):=by
 let Pv:Nat->St->Hp->Prop:=fun i σ' H'=>∃W' ρ' f',Sl mg K H' W' σ' ρ' f'/\Mv (Inn f1) H1 W1 (Inn f') H' W'/\Held L σ σ'/\Aft mg K E L D σ H1 W1 f1 (forF G S (items.drop i) ρ')
 refine ⟨fun i m σ' H'=>m=items.length - i/\i<=items.length/\Pv i σ' H',⟨items.length,by simp,Nat.zero_le _,W1,ρ1,f1,ok.s,.refl ok.sub ok.dom,.refl,q⟩, ?_⟩
 rintro i m σ' H' ⟨rfl,hi,W',ρ',f',s',m',l',q'⟩
 by_cases hlt:i < items.length
 .refine .inr ⟨go i H' W' ⟨_,m'⟩ hlt,Pv (i+1),fun σ2 H2 p2=>⟨items.length - (i+1),by omega,rfl,hlt,p2⟩,fun x H2 y=>?_⟩;obtain ⟨g,o,eo,ow⟩:=yl i H' W' x H2 ⟨_,m'⟩ m'.dom' hlt y;have ed:items.drop i=o::items.drop (i+1):=by
   rw[List.drop_eq_getElem_cons hlt];rw[List.getElem?_eq_getElem hlt] at eo;cases eo;rfl
  rw[ed,forF] at q'
  cases e1:G o ρ' with
  | none=>rw[e1] at q';exact q'.elim
  | some ρ2=>
   rw[e1] at q';dsimp only at q';have s2:Sl mg K H2 W' σ' ρ' f':=s'.on g.d fun x hx=>g.kept m'.dom' (m'.sub' x hx)
   have m2:Mv (Inn f1) H1 W1 (Inn f') H2 W':=(m'.trans (g.mv m'.sub' m'.dom')).narrow fun x hx=>.inl hx
   refine ⟨W',ρ',f',o,[],ρ2,s2,ow,List.nodup_nil,fun x z=>(nomatch z),fun x hx=>m2.sub' x (hx.resolve_right fun z=>nomatch z),m2.dom',e1,fun σ3 f3 s3 i3 l3=>?_⟩;have m3:Mv (Inn f1) H1 W1 (Inn f3) H2 W':=m2.narrow fun x hx=>(i3 x hx).resolve_right fun z=>nomatch z
   refine tS.mk (.next s3 m3 fun _ z=>z) ?_
   cases e2:S ρ2 with
   | bad=>rw[e2] at q';exact q'
   | nx ρ3=>rw[e2] at q';exact fun σ4 H4 W4 f4 s4 m4 l4=>⟨W4,ρ3,f4,s4,m3.trans m4,(l'.trans l3).trans l4,q'⟩
   | ct ρ3=>rw[e2] at q';exact fun σ4 H4 W4 f4 s4 m4 l4=>⟨W4,ρ3,f4,s4,m3.trans m4,(l'.trans l3).trans l4,q'⟩
   | br ρ3=>rw[e2] at q';exact fun σ4 H4 W4 f4 s4 m4 l4=>q' σ4 H4 W4 f4 s4 (m3.trans m4) ((l'.trans l3).trans l4)
   | rt o ρ3=>rw[e2] at q';exact fun v σ4 H4 W4 f4 B s4 o nd ap m4 l4=>q' v σ4 H4 W4 f4 B s4 o nd ap (m3.trans m4) ((l'.trans l3).trans l4)
   | ex c ρ3=>rw[e2] at q';exact fun σ4 H4 W4 f4 s4 m4 l4=>q' σ4 H4 W4 f4 s4 (m3.trans m4) ((l'.trans l3).trans l4)
 .have e:i=items.length:=by omega
  subst e;rw[List.drop_length] at q';exact .inl ⟨stop H' W' ⟨_,m'⟩,q' σ' H' W' f' s' m' l'⟩
end
def sFor (I:Rho->Re (List O)) (G:GF) (S:SF):SF:=fun ρ=>match I ρ with
 | .bad=>.bad
 | .ex c ρ'=>.ex c ρ'
 | .ok items ρ' _=>forF G S items ρ'
def rngO (lo:Int) (n:Nat):List O:=(List.range n).map fun (k:Nat)=>.d (.int (lo+k))
def okR (j:Int):Bool:=decide (-4611686018427387904<=j/\j < 4611686018427387904)
def itR1 (A:EF):Rho->Re (List O):=fun ρ=>(eSc decI A ρ).bind fun j ρ1 q=>if okR j then .ok (rngO 0 j.toNat) ρ1 q else .bad
def zcQ:Nat->List PyData->List O
 | _,[]=>[]
 | k,d::ds=>.d (.tuple [.int k,d])::zcQ (k+1) ds
def itE (A:EF):Rho->Re (List O):=fun ρ=>(A ρ).bind fun r ρ1 q=>match coe ρ1 r with
 | some (o,ρ2)=>match fz o with
  | some (.list ds)=>.ok (zcQ 0 ds) ρ2 q
  | _=>.bad
 | none=>.bad
theorem zc4:∀(k:Nat) (ds:List PyData),(zcQ k ds).length=ds.length
 | _,[]=>rfl
 | k,d::ds=>by simp[zcQ,zc4]
theorem zdb:∀(k:Nat) (ds:List PyData) (i:Nat),(zcQ k ds)[i]? = (ds[i]?).map fun d=>O.d (.tuple [.int ((k+i:Nat):Int),d])
 | _,[],i=>by simp[zcQ]
 | k,d::ds,0=>by simp[zcQ]
 | k,d::ds,i+1=>by
  rw[zcQ,List.getElem?_cons_succ,zdb (k+1) ds i,List.getElem?_cons_succ]
  congr 2
  funext d
  rw[show k+1+i=k+(i+1) by omega]
section
variable {X:Cx} {E:XK} {L:List Nat}
theorem zir {mk:List PyData->List O} {A:EF} {σ:St} {H:Hp} {W:Addr->Prop} {ρ:Rho} {f:Fp} {T:List O->SF} {D:Ends} {R:V->Hp->Prop} (ok:Ok X.mg X.K H W σ ρ f)
  (q:Aft X.mg X.K E L D σ H W f (match ((A ρ).bind fun r ρ1 q=>match coe ρ1 r with
    | some (o,ρ2)=>match fz o with
     | some (.list ds)=>Re.ok (mk ds) ρ2 q
     | _=>.bad
    | none=>.bad:Re (List O)) with
   | .bad=>.bad
   | .ex c ρ'=>.ex c ρ'
   | .ok items ρ' _=>T items ρ'))
  (h:∀a xs ds H' W' f' ρ',Sl X.mg X.K H' W' σ ρ' f'->Mv (Inn f) H W (Inn f') H' W'->H' a=some (.lst xs)->¬W' a->Dns H' W' xs ds->Aft X.mg X.K E L D σ H W f (T (mk ds) ρ')->R (.ref a) H') :
  tR X.mg X.K E A σ H R:=by
 refine zhE zah ok ?_
 cases a:A ρ with
 | bad=>rw[a] at q;exact q
 | ex c ρ'=>rw[a] at q;exact fun H' W' f' s m=>q σ H' W' f' s m .refl
 | ok r ρ1 k=>
  rw[a] at q;dsimp only[Re.bind] at q ⊢
  cases b:coe ρ1 r with
  | none=>rw[b] at q;exact q
  | some z=>
   obtain ⟨o,ρ2⟩:=z;rw[b] at q;dsimp only at q ⊢;intro v H' W' f' As s ow nd ap m
   cases c:fz o with
   | none=>rw[c] at q;exact False.elim q
   | some x=>
    rw[c] at q
    cases x with
    | list ds=>
     have dn:Dn H' (fun x=>W' x/\x∉As) v (.list ds):=ow.dn (fun _ z=>z.1) c fun x hx z=>z.2 hx
     cases dn with
     | @lst a xs _ n1 h1 t1=>
      refine h a xs ds H' (fun x=>W' x/\x∉As) f' ρ2 (s.on (DMv.weak fun _ z=>z.1) fun _ _=>rfl) ⟨m.same,fun x z=>m.less x z.1,fun x w=>?_,fun x hx=>m.ours x (.inl hx),m.sub,m.dom,fun x hx=>⟨m.sub' x (.inl hx),fun z=>ap x z hx⟩,fun x z=>m.dom' x z.1⟩ h1 n1 t1 q;rcases m.more x w with z | z
      .exact .inl z
      .by_cases y:x∈As
       .exact (m.ours x (.inr y)).imp id fun z=>absurd z (m.dom x w)
       .exact .inr ⟨z,y⟩
    | _=>exact False.elim q
theorem zhc {elts:List Expr} {kk:Nat} {tp:Pos} {e:Expr} {body:List Stmt} {A:EF} {G:GF} {S:SF} {p cpos pos:Pos} (hp:PassesOwn (model X.prog X.w) X.A X.env X.xe) (hc:X.calm=true) (hgl:Gl X "enumerate") (hm:X.mg "enumerate"=none) (hi:VR X E e A) (hg:VG X L (.Tuple elts kk tp) G) (hb:VSs X E L body S)
  (hst:starEach [e] X.env=[(false,eval e X.env)]:=by rfl)
  (hs:∀x,foldedSetIterable (.Call (.Name "enumerate" p) [e] [] cpos) X.env x=pure x:=by intro _;rfl):VS X E L (.For (.Tuple elts kk tp) (.Call (.Name "enumerate" p) [e] [] cpos) body [] pos) (sFor (itE A) G S):=(zhD hp hc (pi_E hgl hm (zb7 hi zdo hst) hst) hg hb hs).imp fun D σ H h=>by
 obtain ⟨W,ρ,f,ok,q⟩:=h.aft;refine zir (mk:=fun ds=>zcQ 0 ds) (T:=fun items=>forF G S items) ok q fun a xs ds H' W' f' ρ' s m ha na dn q=>⟨a,xs,rfl,ha, ?_⟩
 refine zeJ (items:=zcQ 0 ds) (.next s m fun _ z=>z) (fun i H2 W2 ⟨_,mm⟩ hi=>?_) (fun H2 W2 ⟨_,mm⟩=>?_) (fun i H2 W2 x H3 ⟨_,mm⟩ dd hi y=>?_) (q.step m .refl)
 .rw[zc4,<-dn.length] at hi;exact ⟨xs,xs[i],(mm.d a _ ha na).1,by simp[hi]⟩
 .exact ⟨xs,(mm.d a _ ha na).1,by rw[zc4,dn.length];exact Nat.le_refl _⟩
 .obtain ⟨t,z,rfl,ht,rfl,y⟩:=y;have hx:=y xs (mm.d a _ ha na).1;obtain ⟨d,e1,e2⟩:=dn.getV hx;have g:Gr H2 W2 [] (upd H2 t (.tup [.int i,z])) W2:=.new ht;exact ⟨g,_,by rw[zdb,e1];rfl,.d (.tup (fun w=>dd t w ht) zbu (.cons (by rw[Nat.zero_add];exact .int _) (.cons ((e2.on mm.d).on g.d) .nil)))⟩
theorem zcR {tg a:Expr} {body:List Stmt} {A:EF} {G:GF} {S:SF} {p cpos pos:Pos} (hp:PassesOwn (model X.prog X.w) X.A X.env X.xe) (hc:X.calm=true) (hgl:Gl X "range") (hm:X.mg "range"=none) (ha:VR X E a A) (hg:VG X L tg G) (hb:VSs X E L body S)
  (hst:starEach [a] X.env=[(false,eval a X.env)]:=by rfl)
  (hs:∀x,foldedSetIterable (.Call (.Name "range" p) [a] [] cpos) X.env x=pure x:=by intro _;rfl):VS X E L (.For tg (.Call (.Name "range" p) [a] [] cpos) body [] pos) (sFor (itR1 A) G S):=(zhD hp hc (zgC hgl hm (zb7 ha zdo hst) hst) hg hb hs).imp fun D σ H h=>by
 obtain ⟨W,ρ,f,ok,q⟩:=h.aft;refine tR.mono (toI (X:=X) (E:=E) (B:=A) (Q:=fun j H1=>okR j=true/\∃W1 ρ1 f1,Sl X.mg X.K H1 W1 σ ρ1 f1/\Mv (Inn f) H W (Inn f1) H1 W1/\Aft X.mg X.K E L D σ H W f (forF G S (rngO 0 j.toNat) ρ1)) ⟨W,ρ,f,ok, ?_⟩) fun v H1 hx1=>?_
 .unfold sFor itR1 at q
  cases c:eSc decI A ρ with
  | bad=>rw[c] at q;exact q
  | ex c ρ'=>rw[c] at q;exact fun H' W' f' s m=>q σ H' W' f' s m .refl
  | ok j ρ1 k=>
   rw[c] at q;dsimp only[Re.bind] at q;intro H1 W1 f1 s m _
   by_cases hr:okR j=true
   .rw[if_pos hr] at q;exact ⟨hr,W1,ρ1,f1,s,m,q⟩
   .rw[if_neg hr] at q;exact False.elim q
 .obtain ⟨j,e,hr,W1,ρ1,f1,s,m,q⟩:=hx1;have hr':=of_decide_eq_true hr;refine ⟨j,by rw[e],hr'.1,hr'.2,zeJ (items:=rngO 0 j.toNat) (.next s m fun _ z=>z) (fun i H2 W2 ⟨_,mm⟩ hi=>?_) (fun H2 W2 ⟨_,mm⟩=>?_) (fun i H2 W2 x H3 ⟨_,mm⟩ dd hi y=>?_) (q.step m .refl)⟩
  .show i < j.toNat;simpa [rngO] using hi
  .show j.toNat<=_;simp[rngO]
  .obtain ⟨rfl,rfl⟩:=y;have hi':i < j.toNat:=by simpa [rngO] using hi
   exact ⟨.refl,.d (.int (0+i)),by simp[rngO,hi'],.d (.int _)⟩
end
def clrR:List (Option Nat)->Rho->Rho
 | [],ρ=>ρ
 | none::js,ρ=>clrR js ρ
 | some i::js,ρ=>clrR js (ρ.set i .z)
def zeg (js:List (Option Nat)) (ρ:Rho):Rho:=js.map fun j=>match j with
 | none=>.z
 | some i=>(ρ[i]?).getD .z
def zcB:List (Option Nat)->Rho->Rho->Rho
 | none::js,_::r,ρ=>zcB js r ρ
 | some i::js,o::r,ρ=>zcB js r (ρ.set i o)
 | _,_,ρ=>ρ
def caps (js:List (Option Nat)):List Nat:=js.filterMap id
section
variable {mg:Str->Option Value} {K:PySem.W.Frag} {H:Hp} {W:Addr->Prop} {σ:St} {ρ:Rho} {f:Fp}
theorem zjA:∀{js:List (Option Nat)} {ρ:Rho} {f:Fp},Sl mg K H W σ ρ f->∃f',Sl mg K H W σ (clrR js ρ) f'/\(∀i,f' i=if i∈caps js then [] else f i)
 | [],ρ,f,s=>⟨f,s,fun i=>by simp[caps]⟩
 | none::js,ρ,f,s=>by
  obtain ⟨f',h1,h2⟩:=zjA (js:=js) s;exact ⟨f',h1,fun i=>by rw[h2];simp[caps]⟩
 | some j::js,ρ,f,s=>by
  obtain ⟨f',h1,h2⟩:=zjA (js:=js) (s.setZ (i:=j));refine ⟨f',h1,fun i=>?_⟩;rw[h2]
  by_cases e:i=j
  .subst e
   by_cases q:i∈caps js
   .rw[if_pos q,if_pos (by simp[caps])]
   .rw[if_neg q,za8,if_pos (by simp[caps])]
  .rw[zbs e]
   have:i∈caps (some j::js)↔i∈caps js:=by simp[caps,e]
   by_cases q:i∈caps js
   .rw[if_pos q,if_pos (this.mpr q)]
   .rw[if_neg q,if_neg fun z=>q (this.mp z)]
def zdl (js:List (Option Nat)) (f:Fp):Fp:=fun k=>match js[k]? with
 | some (some i)=>f i
 | _=>[]
theorem zfB {js:List (Option Nat)} {k i:Nat} (h:js[k]? = some (some i)):i∈caps js:=List.mem_filterMap.mpr ⟨some i,List.mem_of_getElem? h,rfl⟩
theorem zfL:∀{js:List (Option Nat)} {k l i:Nat},(caps js).Nodup->js[k]? = some (some i)->js[l]? = some (some i)->k=l
 | [],k,l,i,_,h,_=>by simp at h
 | none::js,k,l,i,nd,h,h'=>by
  cases k with
  | zero=>cases h
  | succ k=>
   cases l with
   | zero=>cases h'
   | succ l=>rw[zfL (js:=js) (k:=k) (l:=l) (i:=i) (by simpa [caps] using nd) h h']
 | some j::js,k,l,i,nd,h,h'=>by
  have nd':j∉caps js/\(caps js).Nodup:=by
   have:caps (some j::js)=j::caps js:=by simp[caps]
   rw[this] at nd;exact List.nodup_cons.mp nd
  cases k with
  | zero=>
   cases l with
   | zero=>rfl
   | succ l=>cases h;exact absurd (zfB (js:=js) (k:=l) h') nd'.1
  | succ k=>
   cases l with
   | zero=>cases h';exact absurd (zfB (js:=js) (k:=k) h) nd'.1
   | succ l=>rw[zfL (js:=js) (k:=k) (l:=l) (i:=i) nd'.2 h h']
theorem zlo {js:List (Option Nat)} (nd:(caps js).Nodup) (s:Sl mg K H W σ ρ f):Sl mg K H W (pick σ js) (zeg js ρ) (zdl js f):=by
 refine ⟨fun k o e=>?_,fun k hk=>?_,by unfold pick zeg;simp,⟨fun k=>?_,fun k l hkl x hx hy=>?_⟩⟩
 .unfold zeg at e;rw[List.getElem?_map] at e;unfold zdl pick;rw[List.getElem?_map]
  cases q:js[k]? with
  | none=>rw[q] at e;cases e
  | some j=>
   rw[q] at e
   cases j with
   | none=>cases e;exact .inl ⟨rfl,rfl⟩
   | some i=>
    dsimp only[Option.map] at e ⊢
    cases r:ρ[i]? with
    | none=>
     rw[r] at e;cases e;exact .inl ⟨rfl,s.no i (List.getElem?_eq_none_iff.mp r)⟩
    | some u=>
     rw[r] at e;cases e;rcases s.sl i u r with ⟨h1,h2⟩ | ⟨v,h1,h2⟩
     .exact .inl ⟨h1,h2⟩
     .exact .inr ⟨v,by rw[h1];rfl,h2⟩
 .unfold zdl;rw[List.getElem?_eq_none (by unfold zeg at hk;simpa using hk)]
 .unfold zdl;split
  .exact s.fam.nd _
  .exact List.nodup_nil
 .unfold zdl at hx hy;split at hx
  .rename_i i hi;split at hy
   .rename_i j hj
    by_cases e:i=j
    .subst e;exact hkl (zfL nd hi hj)
    .exact s.fam.ap i j e x hx hy
   .cases hy
  .cases hx
theorem zgG:∀{js:List (Option Nat)} {r:Rho} {σ2:St} {g:Fp} {ρ:Rho} {f:Fp},(∀(k:Nat) (o:O),r[k]? = some o->(o=.z/\g k=[])\/∃v,σ2[k]? = some (some v)/\Ow mg K H W v o (g k))->Fam g->
  (∀(k i:Nat),js[k]? = some (some i)->σ2[k]? = some ((σ[i]?).getD none))->(caps js).Nodup->Sl mg K H W σ ρ f->(∀i∈caps js,f i=[])->(∀k i x,x∈g k->x∉f i)->
  ∃f',Sl mg K H W σ (zcB js r ρ) f'/\∀x,Inn f' x->Inn f x\/Inn g x
 | [],r,σ2,g,ρ,f,_,_,_,_,s,_,_=>by rw[zcB];exact ⟨f,s,fun x h=>.inl h⟩;all_goals simp
 | none::js,[],σ2,g,ρ,f,_,_,_,_,s,_,_=>by rw[zcB];exact ⟨f,s,fun x h=>.inl h⟩;all_goals simp
 | some j::js,[],σ2,g,ρ,f,_,_,_,_,s,_,_=>by rw[zcB];exact ⟨f,s,fun x h=>.inl h⟩;all_goals simp
 | none::js,o::r,σ2,g,ρ,f,h,fg,hσ,nd,s,hf,hd=>by
  rw[zcB];obtain ⟨f',a,b⟩:=zgG (js:=js) (r:=r) (σ2:=σ2.tail) (g:=fun k=>g (k+1)) (ρ:=ρ) (f:=f) (fun k o e=>by
    have:=h (k+1) o e
    simpa [List.getElem?_tail] using this) ⟨fun i=>fg.nd _,fun i l hil=>fg.ap _ _ (by omega)⟩ (fun k i e=>by
    have:=hσ (k+1) i e
    simpa [List.getElem?_tail] using this) (by simpa [caps] using nd) s (fun i hi=>hf i (by simpa [caps] using hi)) (fun k i x hx=>hd (k+1) i x hx)
  exact ⟨f',a,fun x hx=>(b x hx).imp id fun ⟨k,hk⟩=>⟨k+1,hk⟩⟩
 | some j::js,o::r,σ2,g,ρ,f,h,fg,hσ,nd,s,hf,hd=>by
  rw[zcB];have nd':j∉caps js/\(caps js).Nodup:=by
   have:caps (some j::js)=j::caps js:=by simp[caps]
   rw[this] at nd;exact List.nodup_cons.mp nd
  have s2:Sl mg K H W σ (ρ.set j o) (fset f j (g 0)):=by
   rcases h 0 o rfl with ⟨rfl,e⟩ | ⟨v,h1,h2⟩
   .rw[e];exact s.setZ
   .have e:=hσ 0 j rfl;rw[h1] at e;have e':σ[j]? = some (some v):=by
     cases q:σ[j]? with
     | none=>rw[q] at e;cases e
     | some u=>rw[q] at e;cases e;rfl
    exact s.setS e' h2 (fg.nd 0) fun x hx i _=>hd 0 i x hx
  obtain ⟨f',a,b⟩:=zgG (js:=js) (r:=r) (σ2:=σ2.tail) (g:=fun k=>g (k+1)) (ρ:=ρ.set j o) (f:=fset f j (g 0)) (fun k o e=>by
    have:=h (k+1) o e
    simpa [List.getElem?_tail] using this) ⟨fun i=>fg.nd _,fun i l hil=>fg.ap _ _ (by omega)⟩ (fun k i e=>by
    have:=hσ (k+1) i e
    simpa [List.getElem?_tail] using this) nd'.2 s2 (fun i hi=>by
    rw[zbs (show i≠j from fun z=>nd'.1 (z ▸ hi))];exact hf i (by rw[show caps (some j::js)=j::caps js by simp[caps]];exact List.mem_cons_of_mem _ hi)) (fun k i x hx=>by
    by_cases e:i=j
    .subst e;rw[za8];exact fun z=>fg.ap (k+1) 0 (by omega) x hx z
    .rw[zbs e];exact hd (k+1) i x hx)
  exact ⟨f',a,fun x hx=>(b x hx).elim (fun z=>z.set.imp id fun y=>⟨0,y⟩) fun ⟨k,hk⟩=>.inr ⟨k+1,hk⟩⟩
end
def lcF (js:List (Option Nat)) (G:GF) (T:TF) (A:EF):List O->Rho->List O->Bool->Re (List O)
 | [],ρ,acc,q=>.ok acc ρ q
 | x::xs,ρ,acc,q=>match G x (zeg js ρ) with
  | none=>.bad
  | some ρ1=>match T ρ1 with
   | .ok b ρ2 q2=>if b then match A ρ2 with
     | .ok r ρ3 q3=>match coe ρ3 r with
      | some (o,ρ4)=>lcF js G T A xs (zcB js ρ4 (clrR js ρ)) (acc++[o]) (q&&q2&&q3)
      | none=>.bad
     | _=>.bad
    else lcF js G T A xs (zcB js ρ2 (clrR js ρ)) acc (q&&q2)
   | _=>.bad
section
variable {mg:Str->Option Value} {K:PySem.W.Frag}
def E0':XK:=fun _ _ _=>False
theorem zly {js:List (Option Nat)} {H H':Hp} {W W':Addr->Prop} {σ σ2:St} {ρ ρ':Rho} {f f2:Fp} {B:List Addr} (nd:(caps js).Nodup) (ok:Ok mg K H W σ ρ f) (s2:Sl mg K H' W' σ2 ρ' f2) (ap:∀x∈B,¬Inn f2 x)
  (m:Mv (Inn (zdl js f)) H W (fun x=>Inn f2 x\/x∈B) H' W') (hσ:∀(k i:Nat),js[k]? = some (some i)->σ2[k]? = (pick σ js)[k]?) :
  ∃f',Sl mg K H' W' σ (zcB js ρ' (clrR js ρ)) f'/\(∀x∈B,¬Inn f' x)/\Mv (Inn f) H W (fun x=>Inn f' x\/x∈B) H' W'/\(∀x,Inn f x->¬Inn (zdl js f) x->H' x=H x):=by
 obtain ⟨f0,s0,e0⟩:=zjA (js:=js) ok.s;have sub0:∀x,Inn f0 x->Inn f x:=fun x hx__=>by
  obtain ⟨i,hi⟩:=hx__;rw[e0] at hi
  by_cases q:i∈caps js
  .rw[if_pos q] at hi;cases hi
  .rw[if_neg q] at hi;exact ⟨i,hi⟩
 have out0:∀x,Inn f0 x->¬Inn (zdl js f) x:=fun x ⟨i,hi⟩ ⟨k,hk⟩=>by
  rw[e0] at hi
  by_cases q:i∈caps js
  .rw[if_pos q] at hi;cases hi
  .rw[if_neg q] at hi;unfold zdl at hk;split at hk
   .rename_i j hj;exact ok.s.fam.ap i j (fun z=>q (z ▸ zfB hj)) x hi hk
   .cases hk
 have keep:∀x,Inn f0 x->W' x/\H' x=H x:=fun x hx=>m.hand (ok.sub x (sub0 x hx)) (out0 x hx)
 have away:∀x,Inn f0 x->¬(Inn f2 x\/x∈B):=fun x hx=>m.apart (ok.sub x (sub0 x hx)) (out0 x hx)
 have s1:Sl mg K H' W' σ (clrR js ρ) f0:=s0.on m.d fun x hx=>(keep x hx).2
 have pickget:∀(k i:Nat),js[k]? = some (some i)->(pick σ js)[k]? = some ((σ[i]?).getD none):=fun k i e=>by
  unfold pick;rw[List.getElem?_map,e];rfl
 obtain ⟨f',b1,b2⟩:=zgG (js:=js) (r:=ρ') (σ2:=σ2) (g:=f2) s2.sl s2.fam (fun k i e=>(hσ k i e).trans (pickget k i e)) nd s1 (fun i hi=>by rw[e0,if_pos hi]) (fun k i x hx z=>away x ⟨i,z⟩ (.inl ⟨k,hx⟩));have pin:∀x,Inn (zdl js f) x->Inn f x:=fun x hx__=>by
  obtain ⟨k,hk⟩:=hx__;unfold zdl at hk;split at hk
  .exact ⟨_,hk⟩
  .cases hk
 refine ⟨f',b1,fun x hx z=>?_,⟨fun b o e n=>m.same b o e fun z=>n (pin b z),m.less,fun x w=>(m.more x w).imp (pin x) id,fun x w=>?_,ok.sub,ok.dom,fun x w=>?_,m.dom'⟩,fun x hx hn=>?_⟩
 .rcases b2 x z with z | z
  .exact away x z (.inr hx)
  .exact ap x hx z
 .rcases w with w | w
  .rcases b2 x w with z | z
   .exact .inl (sub0 x z)
   .exact (m.ours x (.inl z)).imp (pin x) id
  .exact (m.ours x (.inr w)).imp (pin x) id
 .rcases w with w | w
  .rcases b2 x w with z | z
   .exact (keep x z).1
   .exact m.sub' x (.inl z)
  .exact m.sub' x (.inr w)
 .obtain ⟨i,hi⟩:=hx;have hc:i∉caps js:=fun z=>hn (by
   obtain ⟨j,hj,e⟩:=List.mem_filterMap.mp z;cases e;obtain ⟨k,hk,hk'⟩:=List.getElem_of_mem hj;exact ⟨k,by unfold zdl;rw[List.getElem?_eq_getElem hk,hk'];exact hi⟩)
  have h0:Inn f0 x:=⟨i,by rw[e0,if_neg hc];exact hi⟩;exact (keep x h0).2
theorem ziG {J:It} {js:List (Option Nat)} {items:List O} {L:List Nat} {G:GF} {T:TF} {A:EF} {σ:St} {H1:Hp} {W1:Addr->Prop} {ρ1:Rho} {f1:Fp} {Q:VK} {os:List O} {ρ':Rho} {q:Bool} (ok:Ok mg K H1 W1 σ ρ1 f1) (nd:(caps js).Nodup) (hL:∀(k i:Nat),js[k]? = some (some i)->k∈L)
  (hz:items.length<=sizeLine)
  (go:∀i H W',(∃A',Mv (Inn f1) H1 W1 A' H W')->i < items.length->J.go i H) (stop:∀H W',(∃A',Mv (Inn f1) H1 W1 A' H W')->J.stop items.length H)
  (yl:∀i H W' x H',(∃A',Mv (Inn f1) H1 W1 A' H W')->(∀x,W' x->H x≠none)->i < items.length->J.yld i H x H'->Gr H W' [] H' W'/\∃o,items[i]? = some o/\Ow mg K H' W' x o [])
  (e:lcF js G T A items ρ1 [] true=.ok os ρ' q)
  (fin:∀l acc H' W' f' As,H' l=none->Sl mg K H' W' σ ρ' f'->Ows mg K H' W' acc os As->As.Nodup->(∀x∈As,¬Inn f' x)->Mv (Inn f1) H1 W1 (fun x=>Inn f' x\/x∈As) H' W'->(q=true->∀x,Inn f1 x->H' x=H1 x)->Q (.ref l) (upd H' l (.lst acc))) :
  lcGo J js (tTg mg K L G) (tT mg K E0' T) (tR mg K E0' A) σ H1 Q:=by
 let Pv:Nat->List V->Hp->Prop:=fun i acc H'=>∃W' ρi f' As us qi,Sl mg K H' W' σ ρi f'/\Ows mg K H' W' acc us As/\As.Nodup/\(∀x∈As,¬Inn f' x)/\Mv (Inn f1) H1 W1 (fun x=>Inn f' x\/x∈As) H' W'/\(qi=true->∀x,Inn f1 x->H' x=H1 x)/\us.length<=i/\lcF js G T A (items.drop i) ρi us qi=.ok os ρ' q
 refine ⟨fun i m acc H'=>m=items.length - i/\i<=items.length/\Pv i acc H',⟨items.length,by simp,Nat.zero_le _,W1,ρ1,f1,[],[],true,ok.s,.nil,List.nodup_nil,fun x z=>(nomatch z),ok.refl,fun _ _ _=>rfl,Nat.le_refl _,e⟩, ?_⟩
 rintro i m acc H' ⟨rfl,hi,W',ρi,f',As,us,qi,s',o',ndA,apA,m',k',hlen,e'⟩
 have hacc:acc.length=us.length:=o'.length
 by_cases hlt:i < items.length
 .refine .inr ⟨go i H' W' ⟨_,m'⟩ hlt,by omega,fun x H2 y=>?_⟩;obtain ⟨g,ox,eo,ow⟩:=yl i H' W' x H2 ⟨_,m'⟩ m'.dom' hlt y;have ed:items.drop i=ox::items.drop (i+1):=by
   rw[List.drop_eq_getElem_cons hlt];rw[List.getElem?_eq_getElem hlt] at eo;cases eo;rfl
  rw[ed,lcF] at e';have ok':Ok mg K H' W' σ ρi f':=⟨s',fun x hx=>m'.sub' x (.inl hx),m'.dom'⟩
  cases e1:G ox (zeg js ρi) with
  | none=>rw[e1] at e';cases e'
  | some ρ2=>
   rw[e1] at e';dsimp only at e';have s2:Sl mg K H2 W' σ ρi f':=s'.on g.d fun x hx=>g.kept m'.dom' (m'.sub' x (.inl hx))
   have ok2:Ok mg K H2 W' σ ρi f':=⟨s2,ok'.sub,fun x hx=>by rw[g.kept m'.dom' hx];exact m'.dom' x hx⟩;have p2:=zlo (js:=js) nd s2;have pin:∀x,Inn (zdl js f') x->Inn f' x:=fun x hx__=>by
    obtain ⟨k,hk⟩:=hx__;unfold zdl at hk;split at hk
    .exact ⟨_,hk⟩
    .cases hk
   refine ⟨W',zeg js ρi,zdl js f',ox,[],ρ2,p2,ow,List.nodup_nil,fun x z=>(nomatch z),fun x hx=>ok2.sub x (pin x (hx.resolve_right fun z=>nomatch z)),ok2.dom,e1,fun σ3 f3 s3 i3 l3=>?_⟩;have i3':∀x,Inn f3 x->Inn (zdl js f') x:=fun x hx=>(i3 x hx).resolve_right fun z=>nomatch z
   have m3:Mv (Inn (zdl js f')) H2 W' (Inn f3) H2 W':=(Mv.refl (fun x hx=>ok2.sub x (pin x hx)) ok2.dom).narrow i3';have ok3:Ok mg K H2 W' σ3 ρ2 f3:=.next s3 m3 fun _ z=>z
   have held3:∀(k i:Nat),js[k]? = some (some i)->σ3[k]? = (pick σ js)[k]? := fun k i hk=>l3.2 k (hL k i hk)
   -- what was there ahead of the turn
   have back:∀{H4:Hp} {W4:Addr->Prop} {ρ4:Rho} {f4:Fp} {B:List Addr} {qq:Bool},Sl mg K H4 W4 σ3 ρ4 f4->(∀x∈B,¬Inn f4 x)->Mv (Inn f3) H2 W' (fun x=>Inn f4 x\/x∈B) H4 W4->(qq=true->∀x,Inn f3 x->H4 x=H2 x)->
     ∃f5,Sl mg K H4 W4 σ (zcB js ρ4 (clrR js ρi)) f5/\(∀x∈B,¬Inn f5 x)/\(∀x∈As,¬Inn f5 x/\x∉B)/\Ows mg K H4 W4 acc us As/\Mv (Inn f1) H1 W1 (fun x=>Inn f5 x\/x∈As\/x∈B) H4 W4/\((qi&&qq)=true->∀x,Inn f1 x->H4 x=H1 x):=fun {H4 W4 ρ4 f4 B qq} s4 ap4 m4 k4=>by
    have m4':Mv (Inn (zdl js f')) H2 W' (fun x=>Inn f4 x\/x∈B) H4 W4:=m3.trans m4;obtain ⟨f5,b1,b2,b3,b4⟩:=zly nd ok2 s4 ap4 m4' held3;have hAs:∀x∈As,W' x/\¬Inn f' x:=fun x hx=>⟨m'.sub' x (.inr hx),apA x hx⟩
    have keepA:∀x∈As,W4 x/\H4 x=H2 x:=fun x hx=>b3.hand (hAs x hx).1 (hAs x hx).2
    have awayA:∀x∈As,¬(Inn f5 x\/x∈B):=fun x hx=>b3.apart (hAs x hx).1 (hAs x hx).2
    have o2:Ows mg K H2 W' acc us As:=o'.on g.d fun x hx=>g.kept m'.dom' (hAs x hx).1
    refine ⟨f5,b1,b2,fun x hx=>⟨fun z=>awayA x hx (.inl z),fun z=>awayA x hx (.inr z)⟩,o2.on b3.d fun x hx=>(keepA x hx).2, ?_,fun hq x hx=>?_⟩
    .have gm:Mv (fun x=>Inn f' x\/x∈As) H' W' (fun x=>Inn f' x\/x∈As) H2 W':=(g.mv m'.sub' m'.dom').narrow fun x hx=>.inl hx
     refine (m'.trans gm).trans ⟨fun b o e n=>b3.same b o e fun z=>n (.inl z),b3.less,fun x w=>(b3.more x w).imp .inl id,fun x w=>?_,gm.sub',b3.dom,fun x w=>?_,b3.dom'⟩
     .rcases w with w | w | w
      .exact (b3.ours x (.inl w)).imp .inl id
      .exact .inl (.inr w)
      .exact (b3.ours x (.inr w)).imp .inl id
     .rcases w with w | w | w
      .exact b3.sub' x (.inl w)
      .exact (keepA x w).1
      .exact b3.sub' x (.inr w)
    .rw[Bool.and_eq_true] at hq;have h1:=k' hq.1 x hx
     cases ex:H1 x with
     | none=>exact absurd ex (ok.dom x (ok.sub x hx))
     | some u=>
      rw[ex] at h1;have h2:H2 x=some u:=g.same x u h1
      by_cases c:Inn f' x
      .by_cases c2:Inn (zdl js f') x
       .by_cases c3:Inn f3 x
        .rw[k4 hq.2 x c3];exact h2
        .exact m4.same x u h2 c3
       .rw[b4 x c c2];exact h2
      .exact b3.same x u h2 c
   refine ⟨W',ρ2,f3,ok3, ?_⟩
   cases e2:T ρ2 with
   | bad=>rw[e2] at e';cases e'
   | ex c ρ3=>rw[e2] at e';cases e'
   | ok b ρ3 q2=>
    rw[e2] at e';dsimp only at e';intro H4 W4 f4 s4 m4 k4
    cases b with
    | false=>
     rw[if_neg Bool.false_ne_true] at e' ⊢;obtain ⟨f5,b1,_,b3,b4,b5,b6⟩:=back (B:=[]) s4 (fun x z=>nomatch z) (m4.narrow fun x hx=>hx.resolve_right fun z=>nomatch z) k4;exact ⟨items.length - (i+1),by omega,rfl,hlt,W4,_,f5,As,us,_,b1,b4,ndA,fun x hx=>(b3 x hx).1,b5.narrow fun x hx=>hx.imp id .inl,b6,by omega,e'⟩
    | true=>
     rw[if_pos rfl] at e' ⊢;refine ⟨W4,ρ3,f4,.next s4 m4 fun _ z=>z, ?_⟩
     cases e3:A ρ3 with
     | bad=>rw[e3] at e';cases e'
     | ex c ρ4=>rw[e3] at e';cases e'
     | ok r ρ4 q3=>
      rw[e3] at e';dsimp only at e';intro v H5 W5 f5 B s5 r5 n5 m5 k5
      cases e4:coe ρ4 r with
      | none=>rw[e4] at e';cases e'
      | some z=>
       obtain ⟨o,ρ5⟩:=z;rw[e4] at e';dsimp only at e';obtain ⟨W6,f6,s6,g6,B',ow6,nd6,in6⟩:=ze3 s5 (fun x hx=>m5.sub' x (.inl hx)) r5 e4;have hB':∀x∈B',W6 x/\¬Inn f6 x:=fun x hx=>⟨(g6.more x (m5.sub' x (.inr (in6 x hx)))).resolve_left (n5 x (in6 x hx)),fun z=>n5 x (in6 x hx) (g6.ours x z)⟩
       have m6:Mv (Inn f3) H2 W' (fun x=>Inn f6 x\/x∈B') H5 W6:=(m4.trans m5).trans (g6.mv (fun x hx=>.inl hx) m5.sub' m5.dom' fun x hx=>⟨.inr (in6 x hx),(hB' x hx).1⟩);obtain ⟨f7,b1,b2,b3,b4,b5,b6⟩:=back (B:=B') s6 (fun x hx=>(hB' x hx).2) m6 (zfp ok3 k4 m5 k5);refine ⟨items.length - (i+1),by omega,rfl,hlt,W6,_,f7,As++(B'++[]),us++[o],_,b1,Ows.app b4 (.cons ow6 .nil), ?_,fun x hx=>?_,b5.narrow fun x hx=>?_,by rw[<-Bool.and_assoc] at b6;exact b6,by simp;omega,e'⟩
       .rw[List.append_nil];exact List.nodup_append.mpr ⟨ndA,nd6,fun x hx y hy z=>(b3 x hx).2 (z ▸ hy)⟩
       .rw[List.append_nil] at hx;exact (List.mem_append.mp hx).elim (fun z=>(b3 x z).1) (b2 x)
       .rw[List.append_nil] at hx;exact hx.imp id fun z=>List.mem_append.mp z
 .have e2:i=items.length:=by omega
  subst e2;rw[List.drop_length,lcF] at e'
  cases e'
  exact .inl ⟨stop H' W' ⟨_,m'⟩,by omega,fun l hl=>fin l acc H' W' f' As hl s' o' ndA apA m' k'⟩
end
def capL (js:List (Option Nat)):List Nat:=(List.range js.length).filter fun k=>match js[k]? with | some (some _)=>true | _=>false
theorem zfM {js:List (Option Nat)} {k i:Nat} (h:js[k]? = some (some i)):k∈capL js:=by
 unfold capL;rw[List.mem_filter,List.mem_range];exact ⟨(List.getElem?_eq_some_iff.mp h).1,by rw[h]⟩
def eLC (I:Rho->Re (List O)) (js:List (Option Nat)) (G:GF) (T:TF) (A:EF):EF:=fun ρ=>match I ρ with
 | .bad=>.bad
 | .ex c ρ'=>.ex c ρ'
 | .ok items ρ1 q1=>if items.length<=sizeLine then match lcF js G T A items ρ1 [] true with
   | .ok os ρ2 q2=>.ok (.own (.l os)) ρ2 (q1&&q2)
   | _=>.bad
  else .bad
section
variable {mg:Str->Option Value} {K:PySem.W.Frag} {E:XK}
theorem zmN {σ:St} {H:Hp} {W:Addr->Prop} {ρ ρ2:Rho} {f f1:Fp} {Q:VK} {os:List O} {H1:Hp} {W1:Addr->Prop} {q1 q2:Bool} (ok:Ok mg K H W σ ρ f) (m1:Mv (Inn f) H W (Inn f1) H1 W1) (k1:q1=true->∀x,Inn f x->H1 x=H x)
  (q:∀v H' W' f' B,Sl mg K H' W' σ ρ2 f'->RvOk mg K H' W' σ v (.own (.l os)) B->(∀x∈B,¬Inn f' x)->Mv (Inn f) H W (fun x=>Inn f' x\/x∈B) H' W'->((q1&&q2)=true->∀x,Inn f x->H' x=H x)->Q v H') :
  ∀l acc H' W' f' As,H' l=none->Sl mg K H' W' σ ρ2 f'->Ows mg K H' W' acc os As->As.Nodup->(∀x∈As,¬Inn f' x)->Mv (Inn f1) H1 W1 (fun x=>Inn f' x\/x∈As) H' W'->(q2=true->∀x,Inn f1 x->H' x=H1 x)->Q (.ref l) (upd H' l (.lst acc)):=fun l acc H' W' f' As hl s o nd ap m k=>by
 have g:Gr H' W' [l] (upd H' l (.lst acc)) (fun x=>W' x\/x∈[l]):=Gr.newO hl;have m':=m1.trans m;have hlA:l∉As:=fun z=>m.dom' l (m.sub' l (.inr z)) hl
 refine q (.ref l) _ _ f' (l::As) (s.on g.d fun x hx=>g.kept m.dom' (m.sub' x (.inl hx))) ⟨.l zbu (o.on g.d fun x hx=>g.kept m.dom' (m.sub' x (.inr hx))),List.nodup_cons.mpr ⟨hlA,nd⟩⟩ (fun x hx z=>?_) ((m'.trans (g.mv m.sub' m.dom')).narrow fun x hx=>?_) fun hq=>g.quiet ok (zfp ok k1 m k hq)
 .rcases List.mem_cons.mp hx with rfl | hx
  .exact m.dom' x (m.sub' x (.inl z)) hl
  .exact ap x hx z
 .rcases hx with hx | hx
  .exact .inl (.inl hx)
  .rcases List.mem_cons.mp hx with rfl | hx
   .exact .inr List.mem_cons_self
   .exact .inl (.inr hx)
theorem zkH {js:List (Option Nat)} {G:GF}:GK js (tTg mg K (capL js) G):=fun v σ H Q h=>by
 obtain ⟨W,ρ,f,o,B,ρ',sl,ow,nd,ap,sb,dm,e,q⟩:=h;exact ⟨W,ρ,f,o,B,ρ',sl,ow,nd,ap,sb,dm,e,fun σ' f' s i l=>⟨q σ' f' s i l,fun k j hk=>l.2 k (zfM hk)⟩⟩
theorem zpP {A0 A:EF} {js:List (Option Nat)} {G:GF} {T:TF} {σ:St} {H:Hp} {Q:VK} (nd:(caps js).Nodup) (h:tR mg K E (eLC (itR1 A0) js G T A) σ H Q):tLC (zmG (zj9 (tR mg K E A0) tNil)) js (tTg mg K (capL js) G) (tT mg K E0' T) (tR mg K E0' A) σ H Q:=by
 obtain ⟨W,ρ,f,ok,q⟩:=h;unfold eLC itR1 at q;refine tR.mono (zln ziv (Q:=fun j H1=>okR j=true/\∃W1 ρ1 f1 q1,Sl mg K H1 W1 σ ρ1 f1/\Mv (Inn f) H W (Inn f1) H1 W1/\(q1=true->∀x,Inn f x->H1 x=H x)/\kR mg K E σ H W f Q (if (rngO 0 j.toNat).length<=sizeLine then match lcF js G T A (rngO 0 j.toNat) ρ1 [] true with
   | .ok os ρ2 q2=>Re.ok (Rv.own (.l os)) ρ2 (q1&&q2)
   | _=>.bad
  else .bad)) ⟨W,ρ,f,ok, ?_⟩) fun v H1 hx1=>?_
 .cases c:eSc decI A0 ρ with
  | bad=>rw[c] at q;exact q
  | ex c ρ'=>rw[c] at q;exact q
  | ok j ρ1 q1=>
   rw[c] at q;dsimp only[Re.bind] at q;intro H1 W1 f1 s m k
   by_cases hr:okR j=true
   .rw[if_pos hr] at q;exact ⟨hr,W1,ρ1,f1,q1,s,m,k,q⟩
   .rw[if_neg hr] at q;exact False.elim q
 .obtain ⟨j,e,hr,W1,ρ1,f1,q1,s,m,k,q⟩:=hx1;have hr':=of_decide_eq_true hr
  by_cases hz:(rngO 0 j.toNat).length<=sizeLine
  .rw[if_pos hz] at q
   cases b:lcF js G T A (rngO 0 j.toNat) ρ1 [] true with
   | bad=>rw[b] at q;exact False.elim q
   | ex c ρ'=>rw[b] at q;exact False.elim q
   | ok os ρ2 q2=>
    rw[b] at q;refine ⟨j,by rw[e],hr'.1,hr'.2,ziG (items:=rngO 0 j.toNat) (.next s m fun _ z=>z) nd (fun k i=>zfM) hz (fun i H2 W2 ⟨_,mm⟩ hi=>?_) (fun H2 W2 ⟨_,mm⟩=>?_) (fun i H2 W2 x H3 ⟨_,mm⟩ dd hi y=>?_) b (zmN ok m k q)⟩
    .show i < j.toNat;simpa [rngO] using hi
    .show j.toNat<=_;simp[rngO]
    .obtain ⟨rfl,rfl⟩:=y;have hi':i < j.toNat:=by simpa [rngO] using hi
     exact ⟨.refl,.d (.int (0+i)),by simp[rngO,hi'],.d (.int _)⟩
  .rw[if_neg hz] at q;exact False.elim q
theorem zdj {X:Cx}:PF X [] (tT X.mg X.K E0' (gRet true)):=fun pins s σ H Q I h=>znR pins s σ H Q I (tG.ret (E:=E0') h)
theorem ziC {X:Cx} {c:Expr} {T:TF} (hc:VT X E0' c T):PF X [c] (tT X.mg X.K E0' T):=zmk hc
end
def pass:List Bool->List Rv->Rho->Option (List O×List Nat×Rho)
 | [],[],ρ=>some ([],[],ρ)
 | false::ms,r::rs,ρ=>match coe ρ r with
  | some (o,ρ1)=>match pass ms rs ρ1 with
   | some (os,is,ρ2)=>some (o::os,is,ρ2)
   | none=>none
  | none=>none
 | true::ms,.at i []::rs,ρ=>match ρ[i]? with
  | some .z=>none
  | some o=>match pass ms rs (ρ.set i .z) with
   | some (os,is,ρ2)=>some (o::os,i::is,ρ2)
   | none=>none
  | none=>none
 | _,_,_=>none
def zeE:List Bool->List V->List V
 | true::ms,v::vs=>v::zeE ms vs
 | false::ms,_::vs=>zeE ms vs
 | _,_=>[]
def zcm:List Bool->Rho->List O
 | true::ms,o::ρ=>o::zcm ms ρ
 | false::ms,_::ρ=>zcm ms ρ
 | _,_=>[]
def zeo:List Bool->Fp->Fp
 | true::ms,g=>zf7 (g 0) (zeo ms fun k=>g (k+1))
 | false::ms,g=>zeo ms fun k=>g (k+1)
 | [],_=>fun _=>[]
def zgn:Nat->List Bool->List Nat
 | k,true::ms=>k::zgn (k+1) ms
 | k,false::ms=>zgn (k+1) ms
 | _,[]=>[]
def zd5:List Nat->List O->Rho->Rho
 | i::is,o::os,ρ=>zd5 is os (ρ.set i o)
 | _,_,ρ=>ρ
section
variable {mg:Str->Option Value} {K:PySem.W.Frag} {H:Hp} {σ:St}
theorem Hd.cons {W:Addr->Prop} {v:V} {vs:List V} {o:O} {os:List O} {B:List Addr} {g:Fp} (h:Ow mg K H W v o B) (nd:B.Nodup) (t:Hd mg K H W vs os g) (ap:∀x∈B,¬Inn g x):Hd mg K H W (v::vs) (o::os) (zf7 B g):=
 ⟨fun i u e=>by
  cases i with
  | zero=>cases e;exact ⟨v,rfl,h⟩
  | succ i=>exact t.hd i u e,fun i hi=>by
  cases i with
  | zero=>simp at hi
  | succ i=>exact t.no i (by simpa using hi),by simp[t.len],.cons nd t.fam ap⟩
theorem Hd.nil {W:Addr->Prop}:Hd mg K H W [] [] fun _=>[]:=⟨fun i u e=>by simp at e,fun _ _=>rfl,rfl,⟨fun _=>List.nodup_nil,fun _ _ _ _ z=>nomatch z⟩⟩
structure zmp (σ:St) (ρ:Rho) (is:List Nat) (vs:List V):Prop where
 nd:is.Nodup
 len:is.length=vs.length
 at_:∀(j i:Nat),is[j]? = some i->∃v,vs[j]? = some v/\σ[i]? = some (some v)/\ρ[i]? = some .z
theorem zoM {ρ ρ1:Rho} {r:Rv} {o:O} {i:Nat} (a:coe ρ r=some (o,ρ1)) (hi:ρ[i]? = some O.z):ρ1[i]? = some O.z:=by
 cases r with
 | own u=>cases a;exact hi
 | «at» j p=>
  rw[coe] at a
  cases c:ρ[j]? with
  | none=>rw[c] at a;cases a
  | some oi=>
   rw[c] at a;dsimp only at a
   by_cases hj:j=i
   .subst hj;rw[hi] at c;cases c
    cases p with
    | nil=>
     rw[show sub [] O.z=some O.z from rfl] at a;dsimp only at a;rw[show fz O.z=none from rfl] at a;cases a
    | cons k p=>cases a
   .have:ρ1=ρ\/∃y,ρ1=ρ.set j y:=by
     split at a
     .cases a;exact .inl rfl
     .cases a;exact .inl rfl
     .cases a;exact .inl rfl
     .cases a;exact .inl rfl
     .split at a
      .cases a;exact .inr ⟨_,rfl⟩
      .cases a
     .cases a
    rcases this with rfl | ⟨y,rfl⟩
    .exact hi
    .rw[List.getElem?_set_ne hj];exact hi
theorem zkv {ms:List Bool} {rs:List Rv} {ρ ρ':Rho} {os:List O} {is:List Nat} (e:pass (false::ms) rs ρ=some (os,is,ρ')):∃r rt o ρ1 os',rs=r::rt/\coe ρ r=some (o,ρ1)/\pass ms rt ρ1=some (os',is,ρ')/\os=o::os':=by
 cases rs with
 | nil=>cases e
 | cons r rt=>
  rw[pass] at e
  cases a:coe ρ r with
  | none=>rw[a] at e;cases e
  | some z=>
   obtain ⟨o,ρ1⟩:=z;rw[a] at e;dsimp only at e
   cases b:pass ms rt ρ1 with
   | none=>rw[b] at e;cases e
   | some z=>
    obtain ⟨os',is',ρ2⟩:=z;rw[b] at e;cases e;exact ⟨r,rt,o,ρ1,os',rfl,a,b,rfl⟩
theorem zkP {ms:List Bool} {rs:List Rv} {ρ ρ':Rho} {os:List O} {is:List Nat} (e:pass (true::ms) rs ρ=some (os,is,ρ')):∃i rt o os' is',rs=.at i []::rt/\ρ[i]? = some o/\o≠.z/\pass ms rt (ρ.set i .z)=some (os',is',ρ')/\os=o::os'/\is=i::is':=by
 cases rs with
 | nil=>cases e
 | cons r rt=>
  cases r with
  | own u=>cases e
  | «at» i p=>
   cases p with
   | cons k p=>cases e
   | nil=>
    rw[pass] at e
    cases a:ρ[i]? with
    | none=>rw[a] at e;cases e
    | some o=>
     rw[a] at e;have nz:o≠.z:=fun z=>by subst z;cases e
     have e':(match pass ms rt (ρ.set i .z) with
      | some (os,is,ρ2)=>some (o::os,i::is,ρ2)
      | none=>none)=some (os,is,ρ'):=by
      cases o<;>first | exact e | exact absurd rfl nz
     cases b:pass ms rt (ρ.set i .z) with
     | none=>rw[b] at e';cases e'
     | some z=>
      obtain ⟨os',is',ρ2⟩:=z;rw[b] at e'
      cases e'
      exact ⟨i,rt,o,os',is',rfl,a,nz,b,rfl,rfl⟩
theorem zn6 {ms:List Bool}:∀{rs:List Rv} {ρ ρ':Rho} {os:List O} {is:List Nat} {i:Nat},pass ms rs ρ=some (os,is,ρ')->ρ[i]? = some O.z->ρ'[i]? = some O.z/\i∉is:=by
 induction ms with
 | nil=>
  intro rs ρ ρ' os is i e h
  cases rs with
  | nil=>cases e;exact ⟨h,fun z=>nomatch z⟩
  | cons r rt=>cases e
 | cons m ms ih=>
  intro rs ρ ρ' os is i e h
  cases m with
  | false=>
   obtain ⟨r,rt,o,ρ1,os',rfl,a,b,rfl⟩:=zkv e;exact ih b (zoM a h)
  | true=>
   obtain ⟨j,rt,o,os',is',rfl,a,nz,b,rfl,rfl⟩:=zkP e;have hj:j≠i:=fun z=>by subst z;rw[h] at a;cases a;exact nz rfl
   obtain ⟨q1,q2⟩:=ih b (i:=i) (by rw[List.getElem?_set_ne hj];exact h);exact ⟨q1,fun z=>(List.mem_cons.mp z).elim (fun z=>hj z.symm) q2⟩
structure znt (mg:Str->Option Value) (K:PySem.W.Frag) (H:Hp) (σ:St) (ms:List Bool) (vs:List V) (W:Addr->Prop) (f g:Fp) (os:List O) (is:List Nat) (ρ':Rho) (W':Addr->Prop) (f' g':Fp):Prop where
 s:Sl mg K H W' σ ρ' f'
 v:Gv W f W' f'
 h:Hd mg K H W' vs os g'
 i:∀x,Inn g' x->(Inn g x\/Inn f x)/\W' x/\¬Inn f' x
 l:zmp σ ρ' is (zeE ms vs)
 n:vs.length=ms.length
 j:ms.all (fun m=>!m)=true->∀x,Inn g' x->Inn g x
theorem zlb {ms:List Bool}:∀{rs:List Rv} {vs:List V} {W:Addr->Prop} {ρ ρ':Rho} {f g:Fp} {os:List O} {is:List Nat},Sl mg K H W σ ρ f->(∀x,Inn f x->W x)->Rvs mg K H W σ vs rs g->(∀x,Inn g x->W x/\¬Inn f x)->pass ms rs ρ=some (os,is,ρ')->
  ∃W' f' g',znt mg K H σ ms vs W f g os is ρ' W' f' g':=by
 induction ms with
 | nil=>
  intro rs vs W ρ ρ' f g os is s sb h hg e
  cases rs with
  | cons r rt=>cases e
  | nil=>
   cases e
   cases vs with
   | nil=>exact ⟨W,f,_,s,.refl sb,.nil,fun x ⟨_,z⟩=>(nomatch z),⟨List.nodup_nil,rfl,fun j i e=>by simp at e⟩,rfl,fun _ x ⟨_,z⟩=>nomatch z⟩
   | cons v vs=>have:=h.len;simp at this
 | cons m ms ih=>
  intro rs vs W ρ ρ' f g os is s sb h hg e
  cases m with
  | false=>
   obtain ⟨r,rt,o,ρ1,os',rfl,a,b,rfl⟩:=zkv e;obtain ⟨v,us,rfl,h0,ht⟩:=h.tail;obtain ⟨W1,f1,s1,g1,B,o1,nd1,in1⟩:=ze3 s sb h0 a;have hg1:∀x,Inn g x->W1 x/\¬Inn f1 x:=fun x hx=>⟨(g1.more x (hg x hx).1).resolve_left (hg x hx).2,fun z=>(hg x hx).2 (g1.ours x z)⟩
   obtain ⟨W2,f2,g2,p⟩:=ih s1 g1.sub (ht.weak g1.less) (fun x ⟨k,hk⟩=>hg1 x ⟨k+1,hk⟩) b;have hB:∀x∈B,W1 x/\¬Inn f1 x:=fun x hx=>hg1 x ⟨0,in1 x hx⟩
   have ap:∀x∈B,¬Inn g2 x:=fun x hx z=>by
    rcases (p.i x z).1 with ⟨k,hk⟩ | q
    .exact h.fam.ap 0 (k+1) (by omega) x (in1 x hx) hk
    .exact (hB x hx).2 q
   refine ⟨W2,f2,zf7 B g2,p.s,g1.trans p.v,.cons (o1.on (DMv.weak p.v.less) fun _ _=>rfl) nd1 p.h ap,fun x hx=>?_,p.l,by simp[p.n],fun hm x hx=>(inn_cons.mp hx).elim (fun hx=>⟨0,in1 x hx⟩) fun hx=>(fun ⟨k,hk⟩=>⟨k+1,hk⟩) (p.j (by simpa using hm) x hx)⟩;rcases inn_cons.mp hx with hx | hx
   .exact ⟨.inl ⟨0,in1 x hx⟩,(p.v.more x (hB x hx).1).resolve_left (hB x hx).2,fun z=>(hB x hx).2 (p.v.ours x z)⟩
   .obtain ⟨q1,q2,q3⟩:=p.i x hx;exact ⟨q1.elim (fun ⟨k,hk⟩=>.inl ⟨k+1,hk⟩) fun z=>.inr (g1.ours x z),q2,q3⟩
  | true=>
   obtain ⟨i,rt,o,os',is',rfl,a,nz,b,rfl,rfl⟩:=zkP e;obtain ⟨v,us,rfl,h0,ht⟩:=h.tail;obtain ⟨_,u,h1,h2⟩:=h0
   cases (show u=v from h2)
   rcases s.sl i o a with ⟨z,_⟩ | ⟨u',g1,ow⟩
   .exact absurd z nz
   .rw[h1] at g1;cases g1;have hil:i < ρ.length:=(List.getElem?_eq_some_iff.mp a).1;have sbZ:∀x,Inn (fset f i []) x->Inn f x:=fun x hx=>hx.set.elim id fun z=>nomatch z
    have outZ:∀x∈f i,¬Inn (fset f i []) x:=fun x hx hx__=>by
     obtain ⟨j,hj⟩:=hx__
     by_cases q:j=i
     .subst q;rw[za8] at hj;cases hj
     .rw[zbs q] at hj;exact s.fam.ap j i q x hj hx
    obtain ⟨W2,f2,g2,p⟩:=ih (s.setZ (i:=i)) (fun x hx=>sb x (sbZ x hx)) ht (fun x ⟨k,hk⟩=>⟨(hg x ⟨k+1,hk⟩).1,fun z=>(hg x ⟨k+1,hk⟩).2 (sbZ x z)⟩) b;have ap:∀x∈f i,¬Inn g2 x:=fun x hx z=>by
     rcases (p.i x z).1 with ⟨k,hk⟩ | q
     .exact (hg x ⟨k+1,hk⟩).2 ⟨i,hx⟩
     .exact outZ x hx q
    obtain ⟨zi,ni⟩:=zn6 b (i:=i) (List.getElem?_set_self hil);refine ⟨W2,f2,zf7 (f i) g2,p.s,⟨p.v.less,fun x hx=>(p.v.more x hx).imp (sbZ x) id,fun x hx=>sbZ x (p.v.ours x hx),p.v.sub⟩,.cons (ow.on (DMv.weak p.v.less) fun _ _=>rfl) (s.fam.nd i) p.h ap,fun x hx=>?_,⟨List.nodup_cons.mpr ⟨ni,p.l.nd⟩,by simp[zeE,p.l.len],fun j k hk=>?_⟩,by simp[p.n],fun hm=>by simp at hm⟩
    .rcases inn_cons.mp hx with hx | hx
     .exact ⟨.inr ⟨i,hx⟩,(p.v.more x (sb x ⟨i,hx⟩)).resolve_left (outZ x hx),fun z=>outZ x hx (p.v.ours x z)⟩
     .obtain ⟨q1,q2,q3⟩:=p.i x hx;exact ⟨q1.elim (fun ⟨k,hk⟩=>.inl ⟨k+1,hk⟩) fun z=>.inr (sbZ x z),q2,q3⟩
    .cases j with
     | zero=>cases hk;exact ⟨v,rfl,h1,zi⟩
     | succ j=>exact p.l.at_ j k hk
theorem zko {is:List Nat}:∀{os:List O} {vs:List V} {W:Addr->Prop} {ρ:Rho} {f g:Fp},Sl mg K H W σ ρ f->zmp σ ρ is vs->Hd mg K H W vs os g->(∀x,Inn g x->¬Inn f x)->∃f',Sl mg K H W σ (zd5 is os ρ) f'/\∀x,Inn f' x->Inn f x\/Inn g x:=by
 induction is with
 | nil=>
  intro os vs W ρ f g s l h ap;exact ⟨f,by unfold zd5;exact s,fun x hx=>.inl hx⟩
 | cons i is ih=>
  intro os vs W ρ f g s l h ap
  cases os with
  | nil=>exact ⟨f,by unfold zd5;exact s,fun x hx=>.inl hx⟩
  | cons o os=>
   obtain ⟨v,e1,e2,e3⟩:=l.at_ 0 i rfl;obtain ⟨v',e1',ow⟩:=h.hd 0 o rfl;rw[e1] at e1'
   cases e1'
   cases vs with
   | nil=>cases e1
   | cons w vs=>
    cases e1;have s1:=s.setS e2 ow (h.fam.nd 0) fun x hx j _ z=>ap x ⟨0,hx⟩ ⟨j,z⟩
    have nd:=List.nodup_cons.mp l.nd;obtain ⟨f',a1,a2⟩:=ih (os:=os) (vs:=vs) (g:=fun k=>g (k+1)) s1 ⟨nd.2,by have:=l.len;simpa using this,fun j k hk=>by
      obtain ⟨u,q1,q2,q3⟩:=l.at_ (j+1) k hk;refine ⟨u,q1,q2, ?_⟩;rw[List.getElem?_set_ne (fun z:i=k=>nd.1 (z ▸ List.mem_of_getElem? hk))];exact q3⟩ ⟨fun k u e=>h.hd (k+1) u e,fun k hk=>h.no (k+1) (by simpa using hk),by have:=h.len;simpa using this,⟨fun k=>h.fam.nd _,fun k l hkl=>h.fam.ap _ _ (by omega)⟩⟩ (fun x ⟨k,hk⟩ z=>z.set.elim (ap x ⟨k+1,hk⟩) fun y=>h.fam.ap (k+1) 0 (by omega) x hk y)
    exact ⟨f',by rw[zd5];exact a1,fun x hx=>(a2 x hx).elim (fun z=>z.set.imp id fun y=>⟨0,y⟩) fun ⟨k,hk⟩=>.inr ⟨k+1,hk⟩⟩
end
def kVS (mg:Str->Option Value) (K:PySem.W.Frag) (ms:List Bool) (vs:List V) (H:Hp) (Q:VK) (E:XK) (W:Addr->Prop) (g:Fp):Rc->Prop
 | .bad=>False
 | .ok o outs=>∀v H' W' B g',Ow mg K H' W' v o B->B.Nodup->Hd mg K H' W' (zeE ms vs) outs g'->(∀x∈B,¬Inn g' x)->Mv (Inn g) H W (fun x=>Inn g' x\/x∈B) H' W'->Q v H'
 | .ex c outs=>∀H' W' g',Hd mg K H' W' (zeE ms vs) outs g'->Mv (Inn g) H W (Inn g') H' W'->XW mg K E c H'
def VSp (mg:Str->Option Value) (K:PySem.W.Frag) (ms:List Bool) (F:FC):Sp:=fun vs H Q E=>vs.length=ms.length/\∃W os g,Hd mg K H W vs os g/\(∀x,Inn g x->W x)/\(∀x,W x->H x≠none)/\kVS mg K ms vs H Q E W g (F os)
def scl:O->Bool
 | .d .none=>true
 | .d (.bool _)=>true
 | .d (.int _)=>true
 | .d (.str _)=>true
 | _=>false
theorem znX {mg:Str->Option Value} {K:PySem.W.Frag} {H:Hp} {W W':Addr->Prop} {v:V} {o:O} {B:List Addr} (h:Ow mg K H W v o B) (e:scl o=true):Ow mg K H W' v o []:=by
 unfold scl at e;split at e
 .rw[h.non];exact .d .non
 .rw[h.bl];exact .d (.bl _)
 .rw[h.int];exact .d (.int _)
 .rw[h.str];exact .d (.str _)
 .cases e
def zaq (ms:List Bool) (F:FC) (A:AF):EF:=fun ρ=>(A ρ).bind fun rs ρ1 q=>match pass ms rs ρ1 with
 | some (os,is,ρ2)=>match F os with
  | .bad=>.bad
  | .ok o outs=>if ms.all (fun m=>!m)&&scl o then .ok (.own o) ρ1 false else .ok (.own o) (zd5 is outs ρ2) false
  | .ex c outs=>.ex c (zd5 is outs ρ2)
 | none=>.bad
abbrev VDef (P:Program) (w:World) (K:PySem.W.Frag) (mg:Str->Option Value) (base:Heap) (x:Str) (ps:List Str) (k:Nat) (ms:List Bool) (F:FC):Prop:=ziY P w K mg base x ps k (VSp mg K ms F)
section
variable {X:Cx} {E:XK}
theorem zld {ms:List Bool} {F:FC} {A:AF} {σ:St} {H:Hp} {Q:VK} (h:tR X.mg X.K E (zaq ms F A) σ H Q):zm6 (VSp X.mg X.K ms F) [] E (tRs X.mg X.K E A) σ H Q:=by
 obtain ⟨W,ρ,f,ok,q⟩:=h;refine ⟨W,ρ,f,ok, ?_⟩;unfold zaq at q
 cases a:A ρ with
 | bad=>rw[a] at q;exact q
 | ex c ρ'=>rw[a] at q;exact q
 | ok rs ρ1 q1=>
  rw[a] at q;intro vs H1 W1 f1 g s1 r1 n1 m1 k1;dsimp only[Re.bind] at q
  cases b:pass ms rs ρ1 with
  | none=>rw[b] at q;exact False.elim q
  | some z=>
   obtain ⟨os,is,ρ2⟩:=z;rw[b] at q;dsimp only at q;obtain ⟨W2,f2,g2,p⟩:=zlb s1 (fun x hx=>m1.sub' x (.inl hx)) r1 (fun x hx=>⟨m1.sub' x (.inr hx),n1 x hx⟩) b;have dom2:∀x,W2 x->H1 x≠none:=fun x hx=>m1.dom' x (p.v.less x hx)
   have m2:Mv (Inn f) H W (fun x=>Inn f2 x\/Inn g2 x) H1 W2:=m1.trans ⟨fun _ _ h _=>h,fun x h=>.inl (p.v.less x h),fun x h=>(p.v.more x h).imp .inl id,fun x h=>.inl (h.elim (fun z=>.inl (p.v.ours x z)) fun z=>(p.i x z).1.elim .inr .inl),m1.sub',m1.dom',fun x h=>h.elim (p.v.sub x) fun z=>(p.i x z).2.1,dom2⟩;rw[List.append_nil];refine ⟨p.n,W2,os,g2,p.h,fun x hx=>(p.i x hx).2.1,dom2, ?_⟩
   -- behind the call
   have rest:∀{H':Hp} {W':Addr->Prop} {g':Fp} {outs:List O} {B:List Addr},Hd X.mg X.K H' W' (zeE ms vs) outs g'->(∀x∈B,¬Inn g' x)->Mv (Inn g2) H1 W2 (fun x=>Inn g' x\/x∈B) H' W'->
     ∃f',Sl X.mg X.K H' W' σ (zd5 is outs ρ2) f'/\(∀x∈B,¬Inn f' x)/\Mv (Inn f) H W (fun x=>Inn f' x\/x∈B) H' W':=fun {H' W' g' outs B} hd ap m=>by
    have keep:∀x,Inn f2 x->W' x/\H' x=H1 x:=fun x hx=>m.hand (p.v.sub x hx) fun z=>(p.i x z).2.2 hx
    have away:∀x,Inn f2 x->¬(Inn g' x\/x∈B):=fun x hx=>m.apart (p.v.sub x hx) fun z=>(p.i x z).2.2 hx
    have s3:Sl X.mg X.K H' W' σ ρ2 f2:=p.s.on m.d fun x hx=>(keep x hx).2
    obtain ⟨f',b1,b2⟩:=zko (os:=outs) s3 p.l hd fun x hx z=>away x z (.inl hx)
    refine ⟨f',b1,fun x hx z=>?_,m2.trans ⟨fun b o e n=>m.same b o e fun z=>n (.inr z),m.less,fun x w=>(m.more x w).imp .inr id,fun x w=>?_,m2.sub',m.dom,fun x w=>?_,m.dom'⟩⟩
    .rcases b2 x z with z | z
     .exact away x z (.inr hx)
     .exact ap x hx z
    .rcases w with w | w
     .rcases b2 x w with z | z
      .exact .inl (.inl z)
      .exact (m.ours x (.inl z)).imp .inr id
     .exact (m.ours x (.inr w)).imp .inr id
    .rcases w with w | w
     .rcases b2 x w with z | z
      .exact (keep x z).1
      .exact m.sub' x (.inl z)
     .exact m.sub' x (.inr w)
   cases c:F os with
   | bad=>rw[c] at q;exact q
   | ok o outs=>
    rw[c] at q;intro v H' W' B g' ow nd hd ap m;dsimp only at q
    by_cases hm:(ms.all (fun m=>!m)&&scl o)=true
    .rw[if_pos hm] at q;rw[Bool.and_eq_true] at hm;have gg:=p.j hm.1;have ng:∀x,Inn f1 x->¬Inn g2 x:=fun x hx z=>n1 x (gg x z) hx
     have keep:∀x,Inn f1 x->H' x=H1 x:=fun x hx=>by
      cases e:H1 x with
      | none=>exact absurd e (m1.dom' x (m1.sub' x (.inl hx)))
      | some u=>exact m.same x u e (ng x hx)
     have dm:DMv H1 W1 H' (fun x=>W' x\/Inn f1 x):=fun a o ha na=>⟨m.same a o ha fun z=>na (m1.sub' a (.inr (gg a z))),fun z=>z.elim (fun z=>(m.less a z).elim (fun y=>na (p.v.less a y)) fun y=>by rw[ha] at y;cases y) fun z=>na (m1.sub' a (.inl z))⟩
     refine q v H' (fun x=>W' x\/Inn f1 x) f1 [] (s1.on dm keep) ⟨znX ow hm.2,List.nodup_nil⟩ (fun x z=>nomatch z) ((m1.trans ⟨fun b o e n=>m.same b o e fun z=>n (.inr (gg b z)),fun x w=>?_,fun x w=>?_,fun x w=>.inl (.inl w),m1.sub',m1.dom',fun x w=>.inr w,fun x w=>?_⟩).narrow fun x hx=>hx.resolve_right fun z=>nomatch z) fun z=>nomatch z
     .exact w.elim (fun w=>(m.less x w).imp (p.v.less x) id) fun w=>.inl (m1.sub' x (.inl w))
     .rcases p.v.more x w with y | y
      .exact .inl (.inl y)
      .exact (m.more x y).imp (fun z=>.inr (gg x z)) .inl
     .exact w.elim (m.dom' x) fun w=>by rw[keep x w];exact m1.dom' x (m1.sub' x (.inl w))
    .rw[if_neg hm] at q;obtain ⟨f',b1,b2,b3⟩:=rest hd ap m;exact q v H' W' f' B b1 ⟨ow,nd⟩ b2 b3 fun z=>nomatch z
   | ex c outs=>
    rw[c] at q;intro H' W' g' hd m;obtain ⟨f',b1,_,b3⟩:=rest (B:=[]) hd (fun x z=>nomatch z) (m.narrow fun x hx=>hx.resolve_right fun z=>nomatch z);exact q H' W' f' b1 (b3.narrow fun x hx=>.inl hx)
theorem zap {k j:Nat} {ps:List Str} {ms:List Bool} {F:FC} {x:Str} {p pos:Pos} {e:Expr} {es:List Expr} {A:AF} (C:VDef X.prog X.w X.K X.mg X.base x ps k ms F) (hr:Room j X.A) (hj:k<=j) (hg:Gl X x) (hx:zge (CXF X.prog X.w X.base) X E) (ha:VA X E (e::es) A)
  (hdb:(x==("__debug__":Str))=false:=by decide +kernel) (he:starEach (e::es) X.env=(false,eval e X.env)::starEach es X.env:=by rfl) (hpl:(backTo pos (starEach es X.env)).any (·.1)=false:=by rfl) :
  VR X E (.Call (.Name x p) (e::es) [] pos) (zaq ms F A):=by
 obtain ⟨f,fd,h1,h2,h3,h4⟩:=C.ex;exact (zlA h4 (hr.mono hj) hg h1 h2 h3 .nil hx ha hdb he hpl).imp fun σ H Q h=>zld h
theorem zaK:zge (CXF X.prog X.w X.base) X E0':=fun pins σ H s e s' I h=>by
 obtain ⟨_,_,_,_,_,_,_,_,_,_,z⟩:=h;exact z.elim
def runF (ms:List Bool) (n:Nat) (S:SF):FC:=fun os=>match S (os++List.replicate (n - os.length) .z) with
 | .nx ρ'=>.ok (.d .none) (zcm ms ρ')
 | .rt o ρ'=>.ok o (zcm ms ρ')
 | .ex c ρ'=>.ex c (zcm ms ρ')
 | _=>.bad
theorem zlx {mg:Str->Option Value} {K:PySem.W.Frag} {H:Hp} {W:Addr->Prop} {ms:List Bool}:∀{vs:List V} {ρ:Rho} {σ:St} {f:Fp} {k:Nat},(∀(i:Nat) (o:O),ρ[i]? = some o->(o=.z/\f i=[])\/∃v,σ[i]? = some (some v)/\Ow mg K H W v o (f i))->Fam f->ms.length<=ρ.length->vs.length=ms.length->
  (∀(i:Nat) (v:V),ms[i]? = some true->vs[i]? = some v->σ[i]? = some (some v))->Hd mg K H W (zeE ms vs) (zcm ms ρ) (zeo ms f)/\∀x,Inn (zeo ms f) x->Inn f x:=by
 induction ms with
 | nil=>intro vs ρ σ f k _ _ _ _ _;exact ⟨by unfold zeE zcm zeo;exact .nil,fun x ⟨_,z⟩=>by unfold zeo at z;cases z⟩
 | cons m ms ih=>
  intro vs ρ σ f k h fm hl hv hh
  cases ρ with
  | nil=>simp at hl
  | cons o ρ=>
   cases vs with
   | nil=>simp at hv
   | cons v vs=>
    obtain ⟨a,b⟩:=ih (vs:=vs) (ρ:=ρ) (σ:=σ.tail) (f:=fun i=>f (i+1)) (k:=k) (fun i u e=>by
     have:=h (i+1) u e
     simpa [List.getElem?_tail] using this) ⟨fun i=>fm.nd _,fun i j hij=>fm.ap _ _ (by omega)⟩ (by simpa using hl) (by simpa using hv) (fun i u e1 e2=>by
     have:=hh (i+1) u e1 e2
     simpa [List.getElem?_tail] using this)
    cases m with
    | false=>exact ⟨by rw[zeE,zcm,zeo];exact a,fun x hx=>by rw[zeo] at hx;obtain ⟨i,hi⟩:=b x hx;exact ⟨i+1,hi⟩⟩
    | true=>
     have ow:Ow mg K H W v o (f 0):=by
      rcases h 0 o rfl with ⟨rfl,e⟩ | ⟨u,e1,e2⟩
      .rw[e];exact .z v
      .rw[hh 0 v rfl rfl] at e1;cases e1;exact e2
     have ap:∀x∈f 0,¬Inn (zeo ms fun i=>f (i+1)) x:=fun x hx z=>by
      obtain ⟨i,hi⟩:=b x z;exact fm.ap 0 (i+1) (by omega) x hx hi
     refine ⟨by rw[zeE,zcm,zeo];exact .cons ow (fm.nd 0) a ap,fun x hx=>?_⟩;rw[zeo] at hx;rcases inn_cons.mp hx with hx | hx
     .exact ⟨0,hx⟩
     .obtain ⟨i,hi⟩:=b x hx;exact ⟨i+1,hi⟩
theorem zja:∀{ms:List Bool} {k i:Nat},ms[i]? = some true->k+i∈zgn k ms:=by
 intro ms
 induction ms with
 | nil=>intro k i h;simp at h
 | cons m ms ih=>
  intro k i h
  cases i with
  | zero=>cases h;rw[zgn];exact List.mem_cons_self
  | succ i=>
   have:=ih (k:=k+1) (i:=i) (by simpa using h)
   rw[show k+1+i=k+(i+1) by omega] at this
   cases m with
   | true=>rw[zgn];exact List.mem_cons_of_mem _ this
   | false=>rw[zgn];exact this
theorem zhH {mg:Str->Option Value} {K:PySem.W.Frag} {H:Hp} {W:Addr->Prop} {N:List Str} {vs:List V} {os:List O} {g:Fp} (h:Hd mg K H W vs os g) (hn:vs.length<=N.length):Sl mg K H W (start N vs) (os++List.replicate (N.length - os.length) .z) g:=by
 have hl:=h.len;refine ⟨fun i o e=>?_,fun i hi=>h.no i (by simp at hi;omega),by unfold start;simp;omega,h.fam⟩
 by_cases hi:i < os.length
 .rw[List.getElem?_append_left hi] at e;obtain ⟨v,e1,e2⟩:=h.hd i o e;refine .inr ⟨v, ?_,e2⟩;unfold start;rw[List.getElem?_append_left (by simp;omega),List.getElem?_map,e1];rfl
 .rw[List.getElem?_append_right (by omega),List.getElem?_replicate] at e;split at e
  .cases e;exact .inl ⟨rfl,h.no i (by omega)⟩
  .cases e
theorem za2 {P:Program} {w:World} {K:PySem.W.Frag} {mg:Str->Option Value} {base:Heap} {x:Str} {st:Stmt} {N ps:List Str} {k n:Nat} {ms:List Bool} {S:SF} (d:∃f fd,Fun K x x st f fd/\mg x=some (.ref f))
  (hb:∀(kV doc pm:Value) (an:Option Addr) (cdv ct:Value) (us:List Value),us.length=ps.length->bindArgs (PySem.W.fnOf x x (zdh st) (zb3 st) (zak st) .none kV doc pm an cdv ct) ⟨us,[]⟩=pure (ps.zip us))
  (sc:zaw N ps (zak st)) (hms:ms.length=ps.length) (hn:N.length=n) (hpn:ps.length<=n)
  (body:∀(f:Addr) (cdv:Value) (A:Around) (outer:List Env) (s:Shared) (H:Hp) (E:XK),Room k (A.deeper (envOfC x (zak st) s.heap.objs.size f cdv))->
   VSs (cxOf (CXF P w base) P w K mg base N x (zak st) f cdv A outer s H E) E (zgn 0 ms) (zb3 st) S):VDef P w K mg base x ps (k+1) ms (runF ms n S):=by
 subst hn;refine zil d hb sc (fun vs H Q E h=>h.1.trans hms) fun f cdv A outer s H vs Q E hr h=>⟨_,body f cdv A outer s H E hr, ?_⟩
 obtain ⟨hl,W,os,g,hd,sb,dm,q⟩:=h;have s0:=zhH (N:=N) hd (by omega);have hlo:=hd.len;refine tS.mk ⟨s0,sb,dm⟩ ?_;have held:∀{σ':St} {ρ':Rho} {H':Hp} {W':Addr->Prop} {f':Fp},Sl mg K H' W' σ' ρ' f'->Held (zgn 0 ms) (start N vs) σ'->Hd mg K H' W' (zeE ms vs) (zcm ms ρ') (zeo ms f')/\∀x,Inn (zeo ms f') x->Inn f' x:=fun {σ' ρ' H' W' f'} s' l'=>
  zlx (k:=0) s'.sl s'.fam (by rw[s'.len,l'.1];unfold start;simp;omega) hl fun i v e1 e2=>by
   have:=l'.2 i (by have:=zja (k:=0) e1;rwa [Nat.zero_add] at this)
   rw[this];unfold start;have hi:i < vs.length:=(List.getElem?_eq_some_iff.mp e2).1;rw[List.getElem?_append_left (by simpa using hi),List.getElem?_map,e2];rfl
 unfold runF at q
 cases a:S (os++List.replicate (N.length - os.length) .z) with
 | bad=>rw[a] at q;exact q
 | br ρ'=>rw[a] at q;exact False.elim q
 | ct ρ'=>rw[a] at q;exact False.elim q
 | nx ρ'=>
  rw[a] at q;intro σ' H' W' f' s' m' l';obtain ⟨h1,h2⟩:=held s' l';exact q .non H' W' [] _ (.d .non) List.nodup_nil h1 (fun x z=>nomatch z) (m'.narrow fun x hx=>hx.elim (h2 x) fun z=>nomatch z)
 | rt o ρ'=>
  rw[a] at q;intro v σ' H' W' f' B s' ow nd ap m' l';obtain ⟨h1,h2⟩:=held s' l';exact q v H' W' B _ ow nd h1 (fun x hx z=>ap x hx (h2 x z)) (m'.narrow fun x hx=>hx.imp (h2 x) id)
 | ex c ρ'=>
  rw[a] at q;intro σ' H' W' f' s' m' l';obtain ⟨h1,h2⟩:=held s' l';exact q H' W' _ h1 (m'.narrow h2)
end
end L2
namespace L2
open PySem PySem.Spec PySem.Calls PyProof.Rows
section
variable {X:Cx} {E:XK} {L:List Nat} {elt tgt iter:Expr} {ifs:List Expr} {scope:Scope} {pos:Pos} {N':List Str} {js:List (Option Nat)} {G:GF} {T:TF} {A A0:EF}
abbrev Blk (X:Cx) (N':List Str) (scope:Scope) (js:List (Option Nat)) (tgt:Expr) (ifs:List Expr) (elt:Expr) (G:GF) (T:TF) (A:EF):Prop:=∀(s':Shared) (H':Hp) (ex:List Addr),
 VG (blk X N' scope s' H' ex) (capL js) tgt G/\PF (blk X N' scope s' H' ex) ifs (tT X.mg X.K E0' T)/\VR (blk X N' scope s' H' ex) E0' elt A
theorem zpg {wi:TI} {te:TE} {tt:TT} {g:TG} {B:EF} {i:Nat} {D:Ends} {σ:St} {H:Hp} (hL:i∉L) (lc:∀{Q:VK},tR X.mg X.K E B σ H Q->tLC wi js g tt te σ H Q) (h:tS X.mg X.K E L (sAsg coe B (gtN i)) D σ H):tAsg (tLC wi js g tt te) (zhW i) D σ H:=
 lc (tR.mono (zjv zah h) fun v H1 hx__=>by
  obtain ⟨W,ρ,f,o,B,ρ',sl,ow,nd,ap,sb,dm,e,q⟩:=hx__;unfold gtN at e
  by_cases hi:i < ρ.length
  .rw[if_pos hi] at e;cases e;exact q _ _ (sl.bind i ow nd ap hi) (fun x hx=>hx.set) (zfO hL)
  .rw[if_neg hi] at e;cases e)
theorem zdL {p cpos:Pos} {e:Expr} {i:Nat} {y:Str} {py spos:Pos} (hN:X.N.Nodup) (hiy:X.N[i]? = some y) (hy:Loc X.env.scope y) (hL:i∉L) (hi:VR X E e A0) (hgl:Gl X "range") (hm:X.mg "range"=none) (hc:X.calm=true) (hcap:zjL X.N X.env.scope N' scope js=true) (hf:zfm X.env.scope scope=true) (hkind:scope.kind=.function) (nd:(caps js).Nodup) (hb:Blk X N' scope js tgt ifs elt G T A)
  (hst:starEach [e] X.env=[(false,eval e X.env)]:=by rfl)
  (hsw:swapsWith (.ListComp elt [⟨tgt,.Call (.Name "range" p) [e] [] cpos,ifs,0⟩] scope pos) (some (.Name y py)) spos.line X.env=pure true:=by rfl) (hs:∀x,foldedSetIterable (.Call (.Name "range" p) [e] [] cpos) X.env x=pure x:=by intro _;rfl) (hfn:X.fn y=true\/X.env.scope.names.lookup y=some .local:=by first | exact .inl rfl | exact .inr rfl | assumption) :
  VS X E L (.Assign [.Name y py] (.ListComp elt [⟨tgt,.Call (.Name "range" p) [e] [] cpos,ifs,0⟩] scope pos) spos) (sAsg coe (eLC (itR1 A0) js G T A) (gtN i)):=
 (zjR hN hiy hy hc (zgC hgl hm (zb7 hi zdo hst) hst) hcap zkH hf hkind hb hsw hs hfn).imp fun D σ H h=>zpg hL (fun h=>zpP nd h) h
end
section
variable {X:Cx} {E:XK}
def decS:O->Option Str
 | .d (.str s)=>some s
 | _=>none
end
theorem Room.units65 {k:Nat} {A:Around} (r:Room k A):A.units+65 < cLine:=by have:=r.un;omega
section
variable {X:Cx} {E:XK}
theorem znS {o:Expr} {A:EF} {apos cpos:Pos} (ho:VR X E o A) (h:∀{t:TE},PE X o t->PE X (.Call (.Attribute o "bit_length" apos) [] [] cpos) (tBM0 X.K "int" (fun x xs H Q=>∃i,x=.int i/\xs=[]/\Q (.int (Builtin.Int.intBits i)) H) t)) :
  VR X E (.Call (.Attribute o "bit_length" apos) [] [] cpos) (e1 A zij):=zk2 ho (h ho)
theorem zes {c e:Expr} {C A:EF} {apos cpos:Pos} (hc:VR X E c C) (he:VR X E e A) (h:∀{to t:TE},PE X c to->PE X e t->PE X (.Call (.Attribute c "append" apos) [e] [] cpos) (tBM X.K "list" zgY to (zj9 t tNil))):VR X E (.Call (.Attribute c "append" apos) [e] [] cpos) (eApp C A):=zmY hc he (h hc he)
end
def zhq (K:PySem.W.Frag):Sp:=fun vs H Q _=>∃(a:Addr) (ns:List Int),vs=[.ref a]/\SqL K H a (ns.map V.int)/\ns.length<=63/\∀H',Q (.bl true) H'
theorem zk4 {K:PySem.W.Frag} {H:Hp} {a:Addr} {ns:List Int} (hl:ns.length<=63) (_:Only H) (hS:SqL K H a (ns.map V.int)):zhq K [.ref a] H (fun v _=>v=.bl true) fun _ _ _=>False:=⟨a,ns,rfl,hS,hl,fun _=>rfl⟩
theorem zmW {P:Program} {w:World} {K:PySem.W.Frag} {mg:Str->Option Value} {base:Heap} {x p:Str} {st:Stmt} {N:List Str} {k n:Nat} {S:SF} (d:∃f fd,Fun K x x st f fd/\mg x=some (.ref f))
  (hb:∀(kV doc pm:Value) (an:Option Addr) (cdv ct:Value) (us:List Value),us.length=[p].length->bindArgs (PySem.W.fnOf x x (zdh st) (zb3 st) (zak st) .none kV doc pm an cdv ct) ⟨us,[]⟩=pure ([p].zip us))
  (sc:zaw N [p] (zak st)) (hn:N.length=n) (hpn:1<=n)
  (body:∀(f:Addr) (cdv:Value) (A:Around) (outer:List Env) (s:Shared) (H:Hp) (E:XK),Room k (A.deeper (envOfC x (zak st) s.heap.objs.size f cdv))->
   VSs (cxOf CX0 P w K mg base N x (zak st) f cdv A outer s H E).nox E0' [] (zb3 st) S)
  (hF:∀ns:List Int,ns.length<=63->∃ρ',S (.q (ns.map V.int)::List.replicate (n - 1) .z)=.rt (.d (.bool true)) ρ'):zhM P w K mg base x [p] (k+1) (zhq K):=by
 subst hn;refine zis d hb sc (fun vs H Q E ⟨a,ns,e,_⟩=>by rw[e];rfl) fun f cdv A outer s H vs Q E hr h=>⟨_,body f cdv A outer s H E hr, ?_⟩
 obtain ⟨a,ns,rfl,hS,hl,k⟩:=h;obtain ⟨ρ',e⟩:=hF ns hl;have hd:Hd mg K H (fun _=>False) [.ref a] [.q (ns.map V.int)] (zf7 [] fun _=>[]):=.cons (.q (hS.imp (fun z=>⟨z,fun z=>z⟩) id)) List.nodup_nil .nil fun x z=>nomatch z
 have s0:=zhH (N:=N) hd (by simpa using hpn);refine tS.mk ⟨s0,fun x hx=>?_,fun x z=>z.elim⟩ ?_
 .rcases inn_cons.mp hx with z | ⟨_,z⟩<;>cases z
 .rw[show ([O.q (ns.map V.int)]++List.replicate (N.length - [O.q (ns.map V.int)].length) O.z)=.q (ns.map V.int)::List.replicate (N.length - 1) .z from rfl,e];intro v σ' H' W' f' B s' ow nd ap m' l';rw[ow.bl];exact k H'
def cov (ρ:Rho) (r:Rv):Option (List PyData×Bool×Rho):=match coe ρ r with
 | some (o,ρ2)=>match fz o with
  | some (.list ds)=>some (ds,true,ρ2)
  | some (.tuple ds)=>some (ds,false,ρ2)
  | _=>none
 | none=>none
def zej (ρ:Rho):Rv->Option (List PyData×Bool×Nat×O)
 | .own _=>none
 | .at i p=>match ρ[i]? with
  | some oi=>match sub p oi with
   | some (.l os)=>match lds os with
    | some ds=>some (ds,true,i,oi)
    | none=>none
   | some (.t os)=>match lds os with
    | some ds=>some (ds,false,i,oi)
    | none=>none
   | _=>none
  | none=>none
theorem znL {mg:Str->Option Value} {K:PySem.W.Frag} {H:Hp} {W:Addr->Prop} {σ:St} {ρ ρ':Rho} {f:Fp} {r:Rv} {v:V} {B:List Addr} {ds:List PyData} {k:Bool} (s:Sl mg K H W σ ρ f) (sb:∀x,Inn f x->W x) (h:RvOk mg K H W σ v r B) (hB:∀x∈B,W x/\¬Inn f x) (e:cov ρ r=some (ds,k,ρ')) :
  ∃a xs W' f',v=.ref a/\H a=some (if k then .lst xs else .tup xs)/\¬W' a/\Dns H W' xs ds/\Sl mg K H W' σ ρ' f'/\(∀x,W' x->W x)/\(∀x,W x->(Inn f x\/x∈B)\/W' x)/\(∀x,Inn f' x->Inn f x)/\(∀x,Inn f' x->W' x):=by
 unfold cov at e
 cases b:coe ρ r with
 | none=>rw[b] at e;cases e
 | some z=>
  obtain ⟨o,ρ2⟩:=z;rw[b] at e;dsimp only at e;obtain ⟨W2,f2,s2,g2,As,ow,nd2,in2⟩:=ze3 s sb h b;have hA:∀x∈As,¬Inn f2 x:=fun x hx z=>(hB x (in2 x hx)).2 (g2.ours x z)
  have s3:Sl mg K H (fun x=>W2 x/\x∉As) σ ρ2 f2:=s2.on (DMv.weak fun _ z=>z.1) fun _ _=>rfl
  have more:∀x,W x->(Inn f x\/x∈B)\/(W2 x/\x∉As):=fun x w=>by
   by_cases y:x∈As
   .exact .inl (.inr (in2 x y))
   .exact (g2.more x w).imp .inl fun u=>⟨u,y⟩
  cases c:fz o with
  | none=>rw[c] at e;cases e
  | some x=>
   rw[c] at e
   cases x with
   | list xs=>
    cases e
    cases (ow.dn (W':=fun x=>W2 x/\x∉As) (fun _ z=>z.1) c fun x hx z=>z.2 hx) with
    | lst n hh t=>exact ⟨_,_,_,f2,rfl,hh,n,t,s3,fun x z=>g2.less x z.1,more,g2.ours,fun x hx=>⟨g2.sub x hx,fun z=>hA x z hx⟩⟩
   | tuple xs=>
    cases e
    cases (ow.dn (W':=fun x=>W2 x/\x∉As) (fun _ z=>z.1) c fun x hx z=>z.2 hx) with
    | tup n hh t=>exact ⟨_,_,_,f2,rfl,hh,n,t,s3,fun x z=>g2.less x z.1,more,g2.ours,fun x hx=>⟨g2.sub x hx,fun z=>hA x z hx⟩⟩
   | _=>cases e
abbrev Src:=List O×Option (Nat×O)
def srcM (view:Bool) (mk:List PyData->List O) (A:EF):Rho->Re (Src×Bool):=fun ρ=>(A ρ).bind fun r ρ1 q=>match (if view then zej ρ1 r else none) with
 | some (ds,k,i,oi)=>.ok ((mk ds,some (i,oi)),k) (ρ1.set i .z) q
 | none=>match cov ρ1 r with
  | some (ds,k,ρ2)=>.ok ((mk ds,none),k) ρ2 q
  | none=>.bad
def zgP:Option (Nat×O)->Rho->Rho
 | none,ρ=>ρ
 | some (i,o),ρ=>ρ.set i o
section
variable {mg:Str->Option Value} {K:PySem.W.Frag} {E:XK}
def Kept (mg:Str->Option Value) (K:PySem.W.Frag) (σ:St) (H0:Hp) (f0:Fp) (H:Hp) (W:Addr->Prop) (f:Fp):Option (Nat×O)->Prop
 | none=>True
 | some (i,o)=>∃u C,σ[i]? = some (some u)/\Ow mg K H W u o C/\C.Nodup/\∀x∈C,W x/\¬Inn f x/\(Inn f0 x\/H0 x=none)
def kSrc (mg : Str -> Option Value) (K : PySem.W.Frag) (E : XK) (mk : List PyData -> List O) (σ : St) (H : Hp) (W : Addr -> Prop) (f : Fp) (R : V -> Hp -> Prop) : Re (Src × Bool) -> Prop
  | .bad => False
  | .ex c ρ' => ∀ H' W' f', Sl mg K H' W' σ ρ' f' -> Mv (Inn f) H W (Inn f') H' W' -> XW mg K E c H'
  | .ok ((items, rs), k) ρ' q => ∀ a xs ds H' W' f', Sl mg K H' W' σ ρ' f' -> Mv (Inn f) H W (Inn f') H' W' -> (q = true -> ∀ x, Inn f x -> H' x = H x) -> H' a = some (if k then .lst xs else .tup xs) -> Dns H' W' xs ds -> items = mk ds ->
          (∀ H2 W2 A2, Mv (Inn f') H' W' A2 H2 W2 -> H2 a = H' a) -> Kept mg K σ H f H' W' f' rs -> R (.ref a) H'
theorem srcd {view:Bool} {mk:List PyData->List O} {A:EF} {σ:St} {H:Hp} {W:Addr->Prop} {ρ:Rho} {f:Fp} {R:V->Hp->Prop} (ok:Ok mg K H W σ ρ f)
  (q:kSrc mg K E mk σ H W f R (srcM view mk A ρ)) :
  tR mg K E A σ H R:=by
 refine ⟨W,ρ,f,ok, ?_⟩;unfold srcM at q
 cases a:A ρ with
 | bad=>rw[a] at q;exact q
 | ex c ρ'=>rw[a] at q;exact q
 | ok r ρ1 k0=>
  rw[a] at q;dsimp only[Re.bind] at q ⊢;intro v H1 W1 f1 B s1 r1 n1 m1 k1;have viaCov:(match cov ρ1 r with
    | some (ds,k,ρ2)=>(Re.ok ((mk ds,none),k) ρ2 k0:Re (Src×Bool))
    | none=>.bad)=(match (if view then zej ρ1 r else none) with
    | some (ds,k,i,oi)=>.ok ((mk ds,some (i,oi)),k) (ρ1.set i .z) k0
    | none=>match cov ρ1 r with
     | some (ds,k,ρ2)=>.ok ((mk ds,none),k) ρ2 k0
     | none=>.bad)->R v H1:=fun e=>by
   rw[<-e] at q
   cases c:cov ρ1 r with
   | none=>rw[c] at q;exact False.elim q
   | some z=>
    obtain ⟨ds,k,ρ2⟩:=z;rw[c] at q;obtain ⟨b,xs,W2,f2,rfl,h1,h2,h3,h4,h5,h6,h7,h8⟩:=znL s1 (fun x hx=>m1.sub' x (.inl hx)) r1 (fun x hx=>⟨m1.sub' x (.inr hx),n1 x hx⟩) c;refine q b xs ds H1 W2 f2 h4 (m1.trans ⟨fun _ _ h _=>h,fun x h=>.inl (h5 x h),h6,fun x h=>.inl (.inl (h7 x h)),m1.sub',m1.dom',h8,fun x h=>m1.dom' x (h5 x h)⟩) k1 h1 h3 rfl (fun H2 W2' A2 m=>?_) trivial;rw[(m.d b _ h1 h2).1,h1]
  cases view with
  | false=>exact viaCov rfl
  | true=>
   rw[if_pos rfl] at q viaCov
   cases c:zej ρ1 r with
   | none=>rw[c] at viaCov;exact viaCov rfl
   | some z=>
    obtain ⟨ds,k,i,oi⟩:=z;rw[c] at q;dsimp only at q
    cases r with
    | own o=>cases c
    | «at» j p=>
     rw[zej] at c
     cases c1:ρ1[j]? with
     | none=>rw[c1] at c;cases c
     | some oj=>
      rw[c1] at c;dsimp only at c;have c2:∃n os,sub p oj=some n/\els n=some (k,os)/\lds os=some ds/\j=i/\oj=oi:=by
       split at c
       .rename_i os e
        cases e2:lds os with
        | none=>rw[e2] at c;cases c
        | some y=>rw[e2] at c;cases c;exact ⟨_,os,e,rfl,e2,rfl,rfl⟩
       .rename_i os e
        cases e2:lds os with
        | none=>rw[e2] at c;cases c
        | some y=>rw[e2] at c;cases c;exact ⟨_,os,e,rfl,e2,rfl,rfl⟩
       .cases c
      obtain ⟨n,os,e1,e2,e3,rfl,rfl⟩:=c2;obtain ⟨_,u,h1,h2⟩:=r1;rcases s1.sl j oj c1 with ⟨rfl,_⟩ | ⟨u',g1,ow⟩
      .cases p with
       | nil=>cases e1;cases e2
       | cons=>cases e1
      .rw[h1] at g1;cases g1;obtain ⟨w,D,k1',k2,k3⟩:=ow.sub e1
       cases k1'.inj h2
       obtain ⟨b,vs,rfl,hb,dn⟩:=k2.items e2 e3;have hz:Sl mg K H1 W1 σ (ρ1.set j .z) (fset f1 j []):=s1.setZ;have sbz:∀x,Inn (fset f1 j []) x->Inn f1 x:=fun x hx=>hx.set.elim id fun z=>nomatch z
       have outz:∀x∈f1 j,¬Inn (fset f1 j []) x:=fun x hx hx__=>by
        obtain ⟨l,hl⟩:=hx__
        by_cases q:l=j
        .subst q;rw[za8] at hl;cases hl
        .rw[zbs q] at hl;exact s1.fam.ap l j q x hl hx
       refine q b vs ds H1 W1 (fset f1 j []) hz (m1.narrow fun x hx=>.inl (sbz x hx)) k1 hb dn rfl (fun H2 W2 A2 m=>?_) ⟨u,f1 j,h1,ow,s1.fam.nd j,fun x hx=>⟨m1.sub' x (.inl ⟨j,hx⟩),outz x hx,m1.ours x (.inl ⟨j,hx⟩)⟩⟩
       by_cases hw:W1 b
       .have hbn:¬Inn (fset f1 j []) b:=by
         -- a list that is zir is not another name's
         cases n with
         | l us=>
          cases k2 with
          | l _ _=>exact outz b (k3.subset List.mem_cons_self)
         | t us=>cases k2 with | t nw _ _=>exact absurd hw nw
         | d x=>
          cases k2 with
          | d hd=>cases hd with
           | lst nw _ _=>exact absurd hw nw
           | tup nw _ _=>exact absurd hw nw
           | _=>cases e2
         | _=>cases e2
        exact (m.hand hw hbn).2
       .rw[(m.d b _ hb hw).1,hb]
theorem Kept.back {σ:St} {H0 H1 H2:Hp} {W1 W2:Addr->Prop} {f0 f1 f2:Fp} {A2:Addr->Prop} {rs:Option (Nat×O)} {ρ:Rho} {W0:Addr->Prop} (k:Kept mg K σ H0 f0 H1 W1 f1 rs) (m:Mv (Inn f1) H1 W1 A2 H2 W2) (hA:∀x,Inn f2 x->A2 x) (s:Sl mg K H2 W2 σ ρ f2) (m0:Mv (Inn f0) H0 W0 (Inn f1) H1 W1) :
  ∃f3,Sl mg K H2 W2 σ (zgP rs ρ) f3/\(∀x,A2 x->¬Inn f2 x->¬Inn f3 x)/\Mv (Inn f0) H0 W0 (fun x=>Inn f3 x\/A2 x) H2 W2:=by
 cases rs with
 | none=>exact ⟨f2,s,fun x _ h=>h,(m0.trans m).narrow fun x hx=>hx.elim (hA x) id⟩
 | some z=>
  obtain ⟨i,o⟩:=z;obtain ⟨u,C,h1,h2,h3,h4⟩:=k;have keep:∀x∈C,W2 x/\H2 x=H1 x:=fun x hx=>m.hand (h4 x hx).1 (h4 x hx).2.1
  have away:∀x∈C,¬A2 x:=fun x hx=>m.apart (h4 x hx).1 (h4 x hx).2.1
  refine ⟨fset f2 i C,s.setS h1 (h2.on m.d fun x hx=>(keep x hx).2) h3 fun x hx j _ z=>away x hx (hA x ⟨j,z⟩),fun x ha hn z=>z.set.elim hn fun y=>away x y ha, ?_⟩;have mm:=m0.trans m;exact ⟨mm.same,mm.less,mm.more,fun x hx=>hx.elim (fun z=>z.set.elim (fun y=>mm.ours x (hA x y)) fun y=>(h4 x y).2.2) (mm.ours x),mm.sub,mm.dom,fun x hx=>hx.elim (fun z=>z.set.elim (fun y=>mm.sub' x (hA x y)) fun y=>(keep x y).1) (mm.sub' x),mm.dom'⟩
end
def eLS (I:Rho->Re (Src×Bool)) (js:List (Option Nat)) (G:GF) (T:TF) (A:EF):EF:=fun ρ=>match I ρ with
 | .bad=>.bad
 | .ex c ρ'=>.ex c ρ'
 | .ok ((items,rs),_) ρ1 q1=>if items.length<=sizeLine then match lcF js G T A items ρ1 [] true with
   | .ok os ρ2 q2=>.ok (.own (.l os)) (zgP rs ρ2) (q1&&q2)
   | _=>.bad
  else .bad
def iLT (K:PySem.W.Frag) (tl:TE):TI:=fun σ H R=>tl σ H fun x H1=>∃(a:Addr) (xs:List V) (k:Bool),x=.ref a/\H1 a=some (if k then .lst xs else .tup xs)/\R (if k then ItL a else Itt K a) H1
theorem zml {X:Cx} {tg l:Expr} {tl:TE} (hl:PE X l tl):PI X tg l (iLT X.K tl):=by
 intro pins s σ H R I h;refine thn (hl pins s σ H _ I h) fun v s1 hx__=>?_
 obtain ⟨x,H1,I1,r1,q1⟩:=hx__;obtain ⟨a,xs,k,e,hq,q⟩:=q1;subst e;cases r1
 cases k with
 | true=>
  obtain ⟨its,rv,p,hz⟩:=I1.list (SqL.of hq);refine wpAny_pyIter_list p.isList ?_;refine ⟨s1.heap.objs.size,[s1.heap.objs.size],_,ItL a,H1,rfl,I1.kept (t':=s1.toks) (fun b o e=>Heap.get?_push_of_some _ e),zm3 a _,⟨_,Heap.get?_push_size _ rfl,rfl,rfl⟩,fun b hb=>?_,q⟩;obtain rfl:b=s1.heap.objs.size:=by simpa using hb
  exact I1.fpOk (Nat.le_refl _) (I1.hok.fresh (Nat.le_refl _))
 | false=>
  obtain ⟨its,rv,p,hz⟩:=I1.tuple (SqT.of hq);refine wpAny_pyIter_tuple (show s1.heap.IsTuple a its.toArray from p) ?_;refine ⟨s1.heap.objs.size,[s1.heap.objs.size],_,_,H1,rfl,I1.kept (t':=s1.toks) fun b o e=>Heap.get?_push_of_some _ e,zh9 a _,⟨_,Heap.get?_push_size _ rfl,rfl,rfl⟩,fun b hb=>?_,q⟩;have e:b=s1.heap.objs.size:=by simpa using hb
  subst e;exact I1.fpOk (Nat.le_refl _) (I1.hok.fresh (Nat.le_refl _))
section
variable {mg:Str->Option Value} {K:PySem.W.Frag} {E:XK}
theorem znk {a:Addr} {xs:List V} {ds:List PyData} {k:Bool} {H1:Hp} {W1:Addr->Prop} {f1:Fp} (ha:H1 a=some (if k then .lst xs else .tup xs)) (dn:Dns H1 W1 xs ds) (st:∀H2 W2 A2,Mv (Inn f1) H1 W1 A2 H2 W2->H2 a=H1 a) :
  (∀i H W',(∃A',Mv (Inn f1) H1 W1 A' H W')->i < (ds.map O.d).length->(if k then ItL a else Itt K a).go i H)/\(∀H W',(∃A',Mv (Inn f1) H1 W1 A' H W')->(if k then ItL a else Itt K a).stop (ds.map O.d).length H)/\
  (∀i H W' x H',(∃A',Mv (Inn f1) H1 W1 A' H W')->(∀x,W' x->H x≠none)->i < (ds.map O.d).length->(if k then ItL a else Itt K a).yld i H x H'->Gr H W' [] H' W'/\∃o,(ds.map O.d)[i]? = some o/\Ow mg K H' W' x o []):=by
 refine ⟨fun i H2 W2 ⟨_,mm⟩ hi=>?_,fun H2 W2 ⟨_,mm⟩=>?_,fun i H2 W2 x H3 ⟨_,mm⟩ dd hi y=>?_⟩
 .rw[List.length_map,<-dn.length] at hi;have e:=(st H2 W2 _ mm).trans ha
  cases k with
  | true=>exact ⟨xs,xs[i],e,by simp[hi]⟩
  | false=>exact ⟨xs,xs[i],SqT.of e,by simp[hi]⟩
 .have e:=(st H2 W2 _ mm).trans ha
  cases k with
  | true=>exact ⟨xs,e,by rw[List.length_map,dn.length];exact Nat.le_refl _⟩
  | false=>exact ⟨xs,SqT.of e,by rw[List.length_map,dn.length];exact Nat.le_refl _⟩
 .have e:=(st H2 W2 _ mm).trans ha
  have:H3=H2/\xs[i]? = some x:=by
   cases k with
   | true=>exact ⟨y.1,y.2 xs e⟩
   | false=>exact ⟨y.1,y.2 xs (SqT.of e)⟩
  obtain ⟨rfl,hx⟩:=this;obtain ⟨d,e1,e2⟩:=dn.getV hx;exact ⟨.refl,.d d,by rw[List.getElem?_map,e1];rfl,.d (e2.on mm.d)⟩
theorem zlN {σ:St} {H:Hp} {W:Addr->Prop} {ρ ρ2:Rho} {f f1:Fp} {Q:VK} {os:List O} {H1:Hp} {W1:Addr->Prop} {q1 q2:Bool} {rs:Option (Nat×O)} (ok:Ok mg K H W σ ρ f) (m1:Mv (Inn f) H W (Inn f1) H1 W1) (k1:q1=true->∀x,Inn f x->H1 x=H x) (kp:Kept mg K σ H f H1 W1 f1 rs)
  (q:∀v H' W' f' B,Sl mg K H' W' σ (zgP rs ρ2) f'->RvOk mg K H' W' σ v (.own (.l os)) B->(∀x∈B,¬Inn f' x)->Mv (Inn f) H W (fun x=>Inn f' x\/x∈B) H' W'->((q1&&q2)=true->∀x,Inn f x->H' x=H x)->Q v H') :
  ∀l acc H' W' f' As,H' l=none->Sl mg K H' W' σ ρ2 f'->Ows mg K H' W' acc os As->As.Nodup->(∀x∈As,¬Inn f' x)->Mv (Inn f1) H1 W1 (fun x=>Inn f' x\/x∈As) H' W'->(q2=true->∀x,Inn f1 x->H' x=H1 x)->Q (.ref l) (upd H' l (.lst acc)):=fun l acc H' W' f' As hl s o nd ap m k=>by
 obtain ⟨f3,s3,ap3,m3⟩:=kp.back m (fun x hx=>.inl hx) s m1;have g:Gr H' W' [l] (upd H' l (.lst acc)) (fun x=>W' x\/x∈[l]):=Gr.newO hl;have hlA:l∉As:=fun z=>m.dom' l (m.sub' l (.inr z)) hl
 have sub3:∀x,Inn f3 x->W' x:=fun x hx=>m3.sub' x (.inl hx)
 refine q (.ref l) _ _ f3 (l::As) (s3.on g.d fun x hx=>g.kept m.dom' (sub3 x hx)) ⟨.l zbu (o.on g.d fun x hx=>g.kept m.dom' (m.sub' x (.inr hx))),List.nodup_cons.mpr ⟨hlA,nd⟩⟩ (fun x hx z=>?_) ((m3.trans (g.mv m3.sub' m3.dom')).narrow fun x hx=>?_) fun hq=>g.quiet ok (zfp ok k1 m k hq)
 .rcases List.mem_cons.mp hx with rfl | hx
  .exact m.dom' x (sub3 x z) hl
  .exact ap3 x (.inr hx) (ap x hx) z
 .rcases hx with hx | hx
  .exact .inl (.inl hx)
  .rcases List.mem_cons.mp hx with rfl | hx
   .exact .inr List.mem_cons_self
   .exact .inl (.inr (.inr hx))
theorem lc_S {view:Bool} {A0 A:EF} {js:List (Option Nat)} {G:GF} {T:TF} {σ:St} {H:Hp} {Q:VK} (nd:(caps js).Nodup) (h:tR mg K E (eLS (srcM view (fun ds=>ds.map O.d) A0) js G T A) σ H Q):tLC (iLT K (tR mg K E A0)) js (tTg mg K (capL js) G) (tT mg K E0' T) (tR mg K E0' A) σ H Q:=by
 obtain ⟨W,ρ,f,ok,q⟩:=h;refine srcd (view:=view) (mk:=fun ds=>ds.map O.d) ok ?_;unfold eLS at q
 cases ea:srcM view (fun ds=>ds.map O.d) A0 ρ with
 | bad=>rw[ea] at q;exact q
 | ex c ρ'=>rw[ea] at q;exact q
 | ok z ρ1 q1=>
  obtain ⟨⟨items,rs⟩,kd⟩:=z;rw[ea] at q;dsimp only at q ⊢;intro a xs ds H' W' f' s m k ha dn hit st kp
  by_cases hz:items.length<=sizeLine
  .rw[if_pos hz] at q
   cases b:lcF js G T A items ρ1 [] true with
   | bad=>rw[b] at q;exact False.elim q
   | ex c ρ'=>rw[b] at q;exact False.elim q
   | ok os ρ2 q2=>
    rw[b] at q;subst hit;obtain ⟨g1,g2,g3⟩:=znk (mg:=mg) (K:=K) ha dn st;exact ⟨a,xs,kd,rfl,ha,ziG (items:=ds.map O.d) (.next s m fun _ z=>z) nd (fun k i=>zfM) hz g1 g2 g3 b (zlN ok m k kp q)⟩
  .rw[if_neg hz] at q;exact False.elim q
end
section
variable {X:Cx} {E:XK} {L:List Nat} {elt tgt iter:Expr} {ifs:List Expr} {scope:Scope} {pos:Pos} {N':List Str} {js:List (Option Nat)} {G:GF} {T:TF} {A A0:EF} {view:Bool}
theorem zgf (view:Bool) (hi:VR X E iter A0) (hc:X.calm=true) (hcap:zjL X.N X.env.scope N' scope js=true) (hf:zfm X.env.scope scope=true) (hkind:scope.kind=.function) (nd:(caps js).Nodup) (hb:Blk X N' scope js tgt ifs elt G T A)
  (hs:∀x,foldedSetIterable iter X.env x=pure x:=by intro _;rfl):VR X E (.ListComp elt [⟨tgt,iter,ifs,0⟩] scope pos) (eLS (srcM view (fun ds=>ds.map O.d) A0) js G T A):=
 (zpE hc (zml hi) hcap zkH hf hkind hb hs).imp fun σ H Q h=>lc_S nd h
def zep (I:Rho->Re (Src×Bool)) (G:GF) (S:SF):SF:=fun ρ=>match I ρ with
 | .bad=>.bad
 | .ex c ρ'=>.ex c ρ'
 | .ok ((items,_),_) ρ' _=>forF G S items ρ'
theorem zd1 {body:List Stmt} {S:SF} (hp:PassesOwn (model X.prog X.w) X.A X.env X.xe) (hc:X.calm=true) (hi:VR X E iter A) (hg:VG X L tgt G) (hb:VSs X E L body S)
  (hs:∀x,foldedSetIterable iter X.env x=pure x:=by intro _;rfl):VS X E L (.For tgt iter body [] pos) (zep (srcM false (fun ds=>ds.map O.d) A) G S):=(zhD hp hc (zml hi) hg hb hs).imp fun D σ H h=>by
 obtain ⟨W,ρ,f,ok,q⟩:=h.aft;refine srcd (view:=false) (mk:=fun ds=>ds.map O.d) ok ?_;unfold zep at q
 cases ea:srcM false (fun ds=>ds.map O.d) A ρ with
 | bad=>rw[ea] at q;exact q
 | ex c ρ'=>rw[ea] at q;exact fun H' W' f' s m=>q σ H' W' f' s m .refl
 | ok z ρ1 q1=>
  obtain ⟨⟨items,rs⟩,kd⟩:=z;rw[ea] at q;dsimp only at q ⊢;intro a xs ds H' W' f' s m k ha dn hit st kp;subst hit;obtain ⟨g1,g2,g3⟩:=znk (mg:=X.mg) (K:=X.K) ha dn st;exact ⟨a,xs,kd,rfl,ha,zeJ (items:=ds.map O.d) (.next s m fun _ z=>z) g1 g2 g3 (q.step m .refl)⟩
end
end L2
namespace L2
open PySem
def eFz (A:EF):EF:=fun ρ=>match A ρ with
 | .ok (.own o) ρ' q=>match fz o with
  | some x=>.ok (.own (.d x)) ρ' q
  | none=>.bad
 | r=>r
theorem zlu {X:Cx} {E:XK} {e:Expr} {A:EF} (h:VR X E e A):VR X E e (eFz A):=h.imp fun σ H Q hx__=>by
 obtain ⟨W,ρ,f,ok,q⟩:=hx__;refine ⟨W,ρ,f,ok, ?_⟩;unfold eFz at q
 cases eA:A ρ with
 | bad=>rw[eA] at q;exact q
 | ex c ρ'=>rw[eA] at q;exact q
 | ok r ρ' b=>
  rw[eA] at q
  cases r with
  | «at» i p=>exact q
  | own o=>
   dsimp only at q ⊢
   cases ef:fz o with
   | none=>rw[ef] at q;exact False.elim q
   | some x=>
    rw[ef] at q;dsimp only at q;intro v H' W' f' B s hr hB m kk;refine q v H' (fun a=>W' a/\a∉B) f' [] (s.on (fun a o ha hw=>⟨ha,fun z=>hw z.1⟩) fun _ _=>rfl) ⟨.d (hr.1.dn (fun a ha=>ha.1) ef fun y hy hw=>hw.2 hy),.nil⟩ (fun x hx=>by cases hx) ⟨m.same,fun x hx=>m.less x hx.1,fun x hx=>?_,fun x hx=>?_,m.sub,m.dom,fun x hx=>?_,fun x hx=>m.dom' x hx.1⟩ kk
    .rcases m.more x hx with a | a
     .exact .inl a
     .by_cases hb:x∈B
      .exact .inl ((m.ours x (.inr hb)).resolve_right fun z=>m.dom x hx z)
      .exact .inr ⟨a,hb⟩
    .rcases hx with hx | hx
     .exact m.ours x (.inl hx)
     .cases hx
    .rcases hx with hx | hx
     .exact ⟨m.sub' x (.inl hx),fun z=>hB x z hx⟩
     .cases hx
section
variable {ρ ρ1:Rho} {A B C:EF} {i:Nat} {x y o:O} {a b:Int}
@[simp] theorem lk0 (a0:O) (l:List O):(a0::l)[0]? = some a0:=rfl
@[simp] theorem st0 (a0 x:O) (l:List O):(a0::l).set 0 x=x::l:=rfl
@[simp] theorem lk1 (a0 a1:O) (l:List O):(a0::a1::l)[1]? = some a1:=rfl
@[simp] theorem st1 (a0 a1 x:O) (l:List O):(a0::a1::l).set 1 x=a0::x::l:=rfl
@[simp] theorem lk2 (a0 a1 a2:O) (l:List O):(a0::a1::a2::l)[2]? = some a2:=rfl
@[simp] theorem st2 (a0 a1 a2 x:O) (l:List O):(a0::a1::a2::l).set 2 x=a0::a1::x::l:=rfl
@[simp] theorem lk3 (a0 a1 a2 a3:O) (l:List O):(a0::a1::a2::a3::l)[3]? = some a3:=rfl
@[simp] theorem st3 (a0 a1 a2 a3 x:O) (l:List O):(a0::a1::a2::a3::l).set 3 x=a0::a1::a2::x::l:=rfl
@[simp] theorem lk4 (a0 a1 a2 a3 a4:O) (l:List O):(a0::a1::a2::a3::a4::l)[4]? = some a4:=rfl
@[simp] theorem st4 (a0 a1 a2 a3 a4 x:O) (l:List O):(a0::a1::a2::a3::a4::l).set 4 x=a0::a1::a2::a3::x::l:=rfl
@[simp] theorem lk5 (a0 a1 a2 a3 a4 a5:O) (l:List O):(a0::a1::a2::a3::a4::a5::l)[5]? = some a5:=rfl
@[simp] theorem st5 (a0 a1 a2 a3 a4 a5 x:O) (l:List O):(a0::a1::a2::a3::a4::a5::l).set 5 x=a0::a1::a2::a3::a4::x::l:=rfl
@[simp] theorem lk6 (a0 a1 a2 a3 a4 a5 a6:O) (l:List O):(a0::a1::a2::a3::a4::a5::a6::l)[6]? = some a6:=rfl
@[simp] theorem st6 (a0 a1 a2 a3 a4 a5 a6 x:O) (l:List O):(a0::a1::a2::a3::a4::a5::a6::l).set 6 x=a0::a1::a2::a3::a4::a5::x::l:=rfl
@[simp] theorem lk7 (a0 a1 a2 a3 a4 a5 a6 a7:O) (l:List O):(a0::a1::a2::a3::a4::a5::a6::a7::l)[7]? = some a7:=rfl
@[simp] theorem st7 (a0 a1 a2 a3 a4 a5 a6 a7 x:O) (l:List O):(a0::a1::a2::a3::a4::a5::a6::a7::l).set 7 x=a0::a1::a2::a3::a4::a5::a6::x::l:=rfl
@[simp] theorem lk8 (a0 a1 a2 a3 a4 a5 a6 a7 a8:O) (l:List O):(a0::a1::a2::a3::a4::a5::a6::a7::a8::l)[8]? = some a8:=rfl
@[simp] theorem st8 (a0 a1 a2 a3 a4 a5 a6 a7 a8 x:O) (l:List O):(a0::a1::a2::a3::a4::a5::a6::a7::a8::l).set 8 x=a0::a1::a2::a3::a4::a5::a6::a7::x::l:=rfl
@[simp] theorem lk9 (a0 a1 a2 a3 a4 a5 a6 a7 a8 a9:O) (l:List O):(a0::a1::a2::a3::a4::a5::a6::a7::a8::a9::l)[9]? = some a9:=rfl
@[simp] theorem st9 (a0 a1 a2 a3 a4 a5 a6 a7 a8 a9 x:O) (l:List O):(a0::a1::a2::a3::a4::a5::a6::a7::a8::a9::l).set 9 x=a0::a1::a2::a3::a4::a5::a6::a7::a8::x::l:=rfl
@[simp] theorem lk10 (a0 a1 a2 a3 a4 a5 a6 a7 a8 a9 a10:O) (l:List O):(a0::a1::a2::a3::a4::a5::a6::a7::a8::a9::a10::l)[10]? = some a10:=rfl
@[simp] theorem st10 (a0 a1 a2 a3 a4 a5 a6 a7 a8 a9 a10 x:O) (l:List O):(a0::a1::a2::a3::a4::a5::a6::a7::a8::a9::a10::l).set 10 x=a0::a1::a2::a3::a4::a5::a6::a7::a8::a9::x::l:=rfl
@[simp] theorem lk11 (a0 a1 a2 a3 a4 a5 a6 a7 a8 a9 a10 a11:O) (l:List O):(a0::a1::a2::a3::a4::a5::a6::a7::a8::a9::a10::a11::l)[11]? = some a11:=rfl
@[simp] theorem st11 (a0 a1 a2 a3 a4 a5 a6 a7 a8 a9 a10 a11 x:O) (l:List O):(a0::a1::a2::a3::a4::a5::a6::a7::a8::a9::a10::a11::l).set 11 x=a0::a1::a2::a3::a4::a5::a6::a7::a8::a9::a10::x::l:=rfl
@[simp] theorem lk12 (a0 a1 a2 a3 a4 a5 a6 a7 a8 a9 a10 a11 a12:O) (l:List O):(a0::a1::a2::a3::a4::a5::a6::a7::a8::a9::a10::a11::a12::l)[12]? = some a12:=rfl
@[simp] theorem st12 (a0 a1 a2 a3 a4 a5 a6 a7 a8 a9 a10 a11 a12 x:O) (l:List O):(a0::a1::a2::a3::a4::a5::a6::a7::a8::a9::a10::a11::a12::l).set 12 x=a0::a1::a2::a3::a4::a5::a6::a7::a8::a9::a10::a11::x::l:=rfl
@[simp] theorem lk13 (a0 a1 a2 a3 a4 a5 a6 a7 a8 a9 a10 a11 a12 a13:O) (l:List O):(a0::a1::a2::a3::a4::a5::a6::a7::a8::a9::a10::a11::a12::a13::l)[13]? = some a13:=rfl
@[simp] theorem st13 (a0 a1 a2 a3 a4 a5 a6 a7 a8 a9 a10 a11 a12 a13 x:O) (l:List O):(a0::a1::a2::a3::a4::a5::a6::a7::a8::a9::a10::a11::a12::a13::l).set 13 x=a0::a1::a2::a3::a4::a5::a6::a7::a8::a9::a10::a11::a12::x::l:=rfl
@[simp] theorem lk14 (a0 a1 a2 a3 a4 a5 a6 a7 a8 a9 a10 a11 a12 a13 a14:O) (l:List O):(a0::a1::a2::a3::a4::a5::a6::a7::a8::a9::a10::a11::a12::a13::a14::l)[14]? = some a14:=rfl
@[simp] theorem st14 (a0 a1 a2 a3 a4 a5 a6 a7 a8 a9 a10 a11 a12 a13 a14 x:O) (l:List O):(a0::a1::a2::a3::a4::a5::a6::a7::a8::a9::a10::a11::a12::a13::a14::l).set 14 x=a0::a1::a2::a3::a4::a5::a6::a7::a8::a9::a10::a11::a12::a13::x::l:=rfl
@[simp] theorem lk15 (a0 a1 a2 a3 a4 a5 a6 a7 a8 a9 a10 a11 a12 a13 a14 a15:O) (l:List O):(a0::a1::a2::a3::a4::a5::a6::a7::a8::a9::a10::a11::a12::a13::a14::a15::l)[15]? = some a15:=rfl
@[simp] theorem st15 (a0 a1 a2 a3 a4 a5 a6 a7 a8 a9 a10 a11 a12 a13 a14 a15 x:O) (l:List O):(a0::a1::a2::a3::a4::a5::a6::a7::a8::a9::a10::a11::a12::a13::a14::a15::l).set 15 x=a0::a1::a2::a3::a4::a5::a6::a7::a8::a9::a10::a11::a12::a13::a14::x::l:=rfl
@[simp] theorem lk16 (a0 a1 a2 a3 a4 a5 a6 a7 a8 a9 a10 a11 a12 a13 a14 a15 a16:O) (l:List O):(a0::a1::a2::a3::a4::a5::a6::a7::a8::a9::a10::a11::a12::a13::a14::a15::a16::l)[16]? = some a16:=rfl
@[simp] theorem st16 (a0 a1 a2 a3 a4 a5 a6 a7 a8 a9 a10 a11 a12 a13 a14 a15 a16 x:O) (l:List O):(a0::a1::a2::a3::a4::a5::a6::a7::a8::a9::a10::a11::a12::a13::a14::a15::a16::l).set 16 x=a0::a1::a2::a3::a4::a5::a6::a7::a8::a9::a10::a11::a12::a13::a14::a15::x::l:=rfl
@[simp] theorem lk17 (a0 a1 a2 a3 a4 a5 a6 a7 a8 a9 a10 a11 a12 a13 a14 a15 a16 a17:O) (l:List O):(a0::a1::a2::a3::a4::a5::a6::a7::a8::a9::a10::a11::a12::a13::a14::a15::a16::a17::l)[17]? = some a17:=rfl
@[simp] theorem st17 (a0 a1 a2 a3 a4 a5 a6 a7 a8 a9 a10 a11 a12 a13 a14 a15 a16 a17 x:O) (l:List O):(a0::a1::a2::a3::a4::a5::a6::a7::a8::a9::a10::a11::a12::a13::a14::a15::a16::a17::l).set 17 x=a0::a1::a2::a3::a4::a5::a6::a7::a8::a9::a10::a11::a12::a13::a14::a15::a16::x::l:=rfl
@[simp] theorem zoH (S T:SF):sSeq S T ρ=match S ρ with | .nx ρ'=>T ρ' | r=>r:=rfl
@[simp] theorem zoE (take:Rho->Rv->Option (O×Rho)) (G:GF):sAsg take A G ρ=match A ρ with
 | .bad=>.bad
 | .ok r ρ' _=>match take ρ' r with
  | some (o,ρ1)=>match G o ρ1 with
   | some ρ2=>.nx ρ2
   | none=>.bad
  | none=>.bad
 | .ex c ρ'=>.ex c ρ':=rfl
@[simp] theorem zoe (take:Rho->Rv->Option (O×Rho)):sRet take A ρ=match A ρ with
 | .bad=>.bad
 | .ok r ρ' _=>match take ρ' r with
  | some (o,ρ'')=>.rt o ρ''
  | none=>.bad
 | .ex c ρ'=>.ex c ρ':=rfl
@[simp] theorem zps (T:TF) (S U:SF):sIf T S U ρ=match T ρ with
 | .bad=>.bad
 | .ok b ρ' _=>if b then S ρ' else U ρ'
 | .ex c ρ'=>.ex c ρ':=rfl
@[simp] theorem zms:zcW A ρ=match A ρ with
 | .bad=>.bad
 | .ok _ ρ' _=>.nx ρ'
 | .ex c ρ'=>.ex c ρ':=rfl
@[simp] theorem zog:sNil ρ=.nx ρ:=rfl
@[simp] theorem zoo:sBrk ρ=.br ρ:=rfl
@[simp] theorem zmw:zpd ρ=.rt (.d .none) ρ:=rfl
@[simp] theorem zpX (x:PyData):eC x ρ=.ok (.own (.d x)) ρ true:=rfl
theorem zor (h:ρ[i]? = some o) (nz:o≠.z):zab i ρ=.ok (.at i []) ρ true:=by
 unfold zab;rw[h]
 cases o<;>first | rfl | exact absurd rfl nz
@[simp] theorem zmR:zab i ρ=match ρ[i]? with | some .z=>.bad | some _=>.ok (.at i []) ρ true | none=>.bad:=rfl
@[simp] theorem vn_d (x:PyData):vn ρ (.own (.d x))=some (.d x):=rfl
@[simp] theorem vn_l (xs:List O):vn ρ (.own (.l xs))=some (.l xs):=rfl
@[simp] theorem vn_t (xs:List O):vn ρ (.own (.t xs))=some (.t xs):=rfl
def nz:Option O->Option O
 | some .z=>none
 | o=>o
@[simp] theorem nz_d (x:PyData):nz (some (.d x))=some (.d x):=rfl
@[simp] theorem nz_l (x:List O):nz (some (.l x))=some (.l x):=rfl
@[simp] theorem nz_t (x:List O):nz (some (.t x))=some (.t x):=rfl
@[simp] theorem nz_q (x:List V):nz (some (.q x))=some (.q x):=rfl
@[simp] theorem nz_x (x:Str):nz (some (.x x))=some (.x x):=rfl
@[simp] theorem nz_z:nz (some .z)=none:=rfl
@[simp] theorem zoZ:nz none=none:=rfl
theorem zmI:vw ρ (.at i [])=ρ[i]? := by
 rw[vw];split
 .rename_i o h;rw[h]
  cases o<;>rfl
 .rename_i h;rw[h]
@[simp] theorem zkz:vn ρ (.at i [])=nz ρ[i]? := by
 unfold vn;rw[zmI]
 cases h:ρ[i]? with
 | none=>rfl
 | some o=>cases o<;>rfl
@[simp] theorem zpA {q:Bool}:pok ρ q (.own o)=true:=rfl
@[simp] theorem zo2 {q:Bool}:pok ρ q (.at i [])=true:=rfl
@[simp] theorem zp3 (F:O->O->Option O):e2 A B F ρ=(A ρ).bind fun ra ρ1 q1=>(B ρ1).bind fun rb ρ2 q2=>
 if pok ρ1 q2 ra then match vn ρ2 ra,vn ρ2 rb with
  | some x,some y=>match F x y with
   | some z=>.ok (.own z) ρ2 (q1&&q2)
   | none=>.bad
  | _,_=>.bad
 else .bad:=rfl
@[simp] theorem zqh (F:O->Option O):e1 A F ρ=(A ρ).bind fun ra ρ1 q1=>match vn ρ1 ra with
 | some x=>match F x with
  | some z=>.ok (.own z) ρ1 q1
  | none=>.bad
 | none=>.bad:=rfl
@[simp] theorem zpK:tst A ρ=match A ρ with
 | .bad=>.bad
 | .ex c ρ'=>.ex c ρ'
 | .ok r ρ' q=>match vn ρ' r with
  | some (.d (.bool b))=>.ok b ρ' q
  | _=>.bad:=rfl
@[simp] theorem zpS {α:Type} (dec:O->Option α):eSc dec A ρ=(A ρ).bind fun r ρ' q=>match vn ρ' r with
 | some o=>match dec o with
  | some a=>.ok a ρ' q
  | none=>.bad
 | none=>.bad:=rfl
@[simp] theorem zp1:decI (.d (.int a))=some a:=rfl
@[simp] theorem zp8 (b:Bool):decB (.d (.bool b))=some b:=rfl
@[simp] theorem zqb (s:Str):decS (.d (.str s))=some s:=rfl
@[simp] theorem zod {α:Type} (a:α):gRet a ρ=.ok a ρ true:=rfl
@[simp] theorem zng {α β:Type} (G:Rho->Re α) (F:α->Rho->Re β):zbF G F ρ=(G ρ).bind fun a ρ1 q1=>(F a ρ1).bind fun b ρ2 q2=>.ok b ρ2 (q1&&q2):=rfl
@[simp] theorem zmZ {α:Type} (G:Rho->Re α) (F:α->EF):zg9 G F ρ=(G ρ).bind fun a ρ1 q1=>(F a ρ1).bind fun b ρ2 q2=>.ok b ρ2 (q1&&q2):=rfl
@[simp] theorem zop (G:TF):eOfB G ρ=(G ρ).bind fun b ρ' q=>.ok (.own (.d (.bool b))) ρ' q:=rfl
@[simp] theorem zow:eAnd A B ρ=eOfB (zbF (eSc decB A) fun c=>if c then eSc decB B else gRet false) ρ:=rfl
@[simp] theorem zoK:eOr A B ρ=eOfB (zbF (eSc decB A) fun c=>if c then gRet true else eSc decB B) ρ:=rfl
@[simp] theorem zoq:eNot A ρ=eOfB (zbF (eSc decB A) fun c=>gRet (!c)) ρ:=rfl
@[simp] theorem zpq (S:TF):eIf S A B ρ=zg9 S (fun c=>if c then A else B) ρ:=rfl
@[simp] theorem zok (S T:TF):gAnd S T ρ=zbF S (fun c=>if c then T else gRet false) ρ:=rfl
@[simp] theorem zpH (S T:TF):gOr S T ρ=zbF S (fun c=>if c then gRet true else T) ρ:=rfl
@[simp] theorem zon (S:TF):gNot S ρ=zbF S (fun c=>gRet (!c)) ρ:=rfl
@[simp] theorem zmd (p q:Int->Int->Bool):zdA A B C p q ρ=zbF (eSc decI A) (fun a=>zbF (eSc decI B) fun b=>if p a b then zbF (eSc decI C) fun c=>gRet (q b c) else gRet false) ρ:=rfl
@[simp] theorem zoD:aNil ρ=.ok [] ρ true:=rfl
@[simp] theorem zm7 (R:AF):zae A R ρ=(A ρ).bind fun r ρ1 q1=>(R ρ1).bind fun rs ρ2 q2=>if pok ρ1 q2 r then .ok (r::rs) ρ2 (q1&&q2) else .bad:=rfl
@[simp] theorem zpW (R:AF) (F:List O->Option O):eB R F ρ=(R ρ).bind fun rs ρ1 q=>match vns ρ1 rs with
 | some os=>match F os with
  | some z=>.ok (.own z) ρ1 q
  | none=>.bad
 | none=>.bad:=rfl
@[simp] theorem zpu:vns ρ []=some []:=rfl
@[simp] theorem zoJ (r:Rv) (rs:List Rv):vns ρ (r::rs)=match vn ρ r,vns ρ rs with | some o,some os=>some (o::os) | _,_=>none:=rfl
@[simp] theorem zpZ (F:O->Option O):f1 F [o]=F o:=rfl
@[simp] theorem zpz (F:Int->Int->Int):f2I F [.d (.int a),.d (.int b)]=some (.d (.int (F a b))):=rfl
@[simp] theorem zoS:coe ρ (.own o)=some (o,ρ):=rfl
@[simp] theorem zoO:mov ρ (.own o)=some (o,ρ):=rfl
@[simp] theorem zpB:mov ρ (.at i [])=match ρ[i]? with | some .z=>none | some o=>some (o,ρ.set i .z) | none=>none:=rfl
@[simp] theorem zph:sub [] o=some o:=by cases o<;>rfl
@[simp] theorem zpv:coe ρ (.at i [])=match ρ[i]? with
  | some (.d x)=>some (.d x,ρ)
  | some (.x c)=>some (.x c,ρ)
  | some (.g o)=>some (.g o,ρ)
  | some (.q o)=>some (.q o,ρ)
  | some o=>match fz o with
   | some x=>some (.d x,ρ.set i (.d x))
   | none=>none
  | none=>none:=by
 rw[coe]
 cases ρ[i]? with
 | none=>rfl
 | some o=>
  cases o with
  | l xs=>simp;cases fz (.l xs)<;>rfl
  | t xs=>simp;cases fz (.t xs)<;>rfl
  | z=>rfl
  | _=>rfl
@[simp] theorem zof:coes ρ []=some ([],ρ):=rfl
@[simp] theorem znr (r:Rv) (rs:List Rv):coes ρ (r::rs)=match coe ρ r with
  | some (o,ρ1)=>match coes ρ1 rs with
   | some (os,ρ2)=>some (o::os,ρ2)
   | none=>none
  | none=>none:=rfl
@[simp] theorem zoI:movs ρ []=some ([],ρ):=rfl
@[simp] theorem zm0 (r:Rv) (rs:List Rv):movs ρ (r::rs)=match mov ρ r with
  | some (o,ρ1)=>match movs ρ1 rs with
   | some (os,ρ2)=>some (o::os,ρ2)
   | none=>none
  | none=>none:=rfl
@[simp] theorem zqd:(0:Nat)<=sizeLine:=by decide
@[simp] theorem zqf:(1:Nat)<=sizeLine:=by decide
@[simp] theorem zp5:(2:Nat)<=sizeLine:=by decide
@[simp] theorem zqe:(3:Nat)<=sizeLine:=by decide
@[simp] theorem zql:(4:Nat)<=sizeLine:=by decide
@[simp] theorem zpV:(5:Nat)<=sizeLine:=by decide
theorem zbx {n:Nat} (h:n<=16777216):n<=sizeLine:=by rw[sizeLine_eq];exact h
theorem zeq {n:Nat} (h:n < 16777216):n < sizeLine:=by rw[sizeLine_eq];exact h
@[simp] theorem znO (take:Rho->List Rv->Option (List O×Rho)) (mk:List O->O) (R:AF):zaL take mk R ρ=(R ρ).bind fun rs ρ1 q=>match take ρ1 rs with
 | some (os,ρ2)=>if os.length<=sizeLine then .ok (.own (mk os)) ρ2 q else .bad
 | none=>.bad:=rfl
@[simp] theorem zpO:gtN i o ρ=if i < ρ.length then some (ρ.set i o) else none:=rfl
@[simp] theorem znH:zbD [] ρ=some ρ:=rfl
@[simp] theorem zmg (G:GF) (R:List O->Rho->Option Rho) (os:List O):zam G R (o::os) ρ=match G o ρ with | some ρ1=>R os ρ1 | none=>none:=rfl
@[simp] theorem zpD (R:List O->Rho->Option Rho):gtT R o ρ=match els o with | some (false,os)=>R os ρ | _=>none:=rfl
@[simp] theorem zob (ds:List PyData):els (.d (.list ds))=some (true,ds.map O.d):=rfl
@[simp] theorem znc (ds:List PyData):els (.d (.tuple ds))=some (false,ds.map O.d):=rfl
@[simp] theorem zqm (os:List O):els (.l os)=some (true,os):=rfl
@[simp] theorem zqx (os:List O):els (.t os)=some (false,os):=rfl
@[simp] theorem zpM:els (.d (.int a))=none:=rfl
@[simp] theorem zom (b:Bool):els (.d (.bool b))=none:=rfl
@[simp] theorem zoh:els (.d .none)=none:=rfl
@[simp] theorem zpi (s:Str):els (.d (.str s))=none:=rfl
@[simp] theorem zqp (s:List V):els (.q s)=none:=rfl
@[simp] theorem zg3:eIx A B ρ=(A ρ).bind fun ra ρ1 q1=>(eSc decI B ρ1).bind fun i ρ2 q2=>if pok ρ1 q2 ra then match gIx ρ2 ra i with
 | some r=>.ok r ρ2 (q1&&q2)
 | none=>.bad
 else .bad:=rfl
@[simp] theorem zp4:fAdd (.d (.int a)) (.d (.int b))=some (.d (.int (a+b))):=rfl
@[simp] theorem zqa:fSub (.d (.int a)) (.d (.int b))=some (.d (.int (a - b))):=rfl
@[simp] theorem zpU:fNeg (.d (.int a))=some (.d (.int (-a))):=rfl
@[simp] theorem zqu:fLt (.d (.int a)) (.d (.int b))=some (.d (.bool (decide (a < b)))):=rfl
@[simp] theorem zqo:fLe (.d (.int a)) (.d (.int b))=some (.d (.bool (decide (a<=b)))):=rfl
@[simp] theorem zqC:fGt (.d (.int a)) (.d (.int b))=some (.d (.bool (decide (b < a)))):=rfl
@[simp] theorem zqn:fGe (.d (.int a)) (.d (.int b))=some (.d (.bool (decide (b<=a)))):=rfl
theorem zgE (h1:-18446744073709551616 < b) (h2:b < 18446744073709551616):fMul (.d (.int a)) (.d (.int b))=some (.d (.int (a * b))):=by
 unfold fMul;exact if_pos (.inr ⟨by omega,by omega⟩)
theorem zf2 (h1:-18446744073709551616 < a) (h2:a < 18446744073709551616):fMul (.d (.int a)) (.d (.int b))=some (.d (.int (a * b))):=by
 unfold fMul;exact if_pos (.inl ⟨by omega,by omega⟩)
theorem zd0 (h:0 < b):fMod (.d (.int a)) (.d (.int b))=some (.d (.int (a % b))):=by
 show (gC (fun _ j=>0 < j) (fun a b=>a % b) a b).map O.d=_;unfold gC;rw[if_pos h];rfl
theorem zjq (h:0 < b) (h2:b < 1606938044258990275541962092341162602522202993782792835301376):fDiv (.d (.int a)) (.d (.int b))=some (.d (.int (a / b))):=by
 show (gC zh8 (fun a b=>a / b) a b).map O.d=_;unfold gC;rw[if_pos (show zh8 a b from ⟨h,by omega⟩)];rfl
theorem zh7 (h:0 < b) (h2:b < 1267650600228229401496703205376):fDiv (.d (.int a)) (.d (.int b))=some (.d (.int (a / b))):=zjq h (Int.lt_trans h2 (by decide))
theorem zo9 (h0:0<=b) (h1:b<=1000000) (h2:a.natAbs < 18446744073709551616):fPow (.d (.int a)) (.d (.int b))=some (.d (.int (a ^ b.toNat))):=by
 show (gC CPow (fun a b=>a ^ b.toNat) a b).map O.d=_;unfold gC;rw[if_pos (show CPow a b from ⟨h0,h1,by omega⟩)];rfl
@[simp] theorem zk7:zij (.d (.int a))=some (.d (.int (Builtin.Int.intBits a))):=rfl
@[simp] theorem zpf:zjh (.d (.int a))=some (.d (.int a)):=rfl
@[simp] theorem zo0 (b:Bool):zjh (.d (.bool b))=some (.d (.int (if b then 1 else 0))):=rfl
@[simp] theorem zqc (U:String):fIsi U (.d (.int a))=some (.d (.bool (subT "int" U))):=rfl
@[simp] theorem zp2 (U:String) (b:Bool):fIsi U (.d (.bool b))=some (.d (.bool (subT "bool" U))):=rfl
@[simp] theorem zqj (U:String):fIsi U (.d .none)=some (.d (.bool (subT "NoneType" U))):=rfl
@[simp] theorem zqk (U:String) (s:Str):fIsi U (.d (.str s))=some (.d (.bool (subT "str" U))):=rfl
@[simp] theorem znu (U:String) (s:List PyData):fIsi U (.d (.list s))=some (.d (.bool (subT "list" U))):=rfl
@[simp] theorem zox (U:String) (s:List PyData):fIsi U (.d (.tuple s))=some (.d (.bool (subT "tuple" U))):=rfl
@[simp] theorem zp6 (U:String) (s:List O):fIsi U (.l s)=some (.d (.bool (subT "list" U))):=rfl
@[simp] theorem zqi (U:String) (s:List O):fIsi U (.t s)=some (.d (.bool (subT "tuple" U))):=rfl
@[simp] theorem zpc (A:EF) (ρ:Rho):eFz A ρ=match A ρ with
 | .ok (.own o) ρ' q=>match fz o with
  | some x=>.ok (.own (.d x)) ρ' q
  | none=>.bad
 | r=>r:=rfl
@[simp] theorem fz_d (x:PyData):fz (.d x)=some x:=by rw[fz]
@[simp] theorem zgQ (xs:List PyData):fz (.l (xs.map O.d))=some (.list xs):=by rw[fz,zn8];rfl
@[simp] theorem zpR (xs:List PyData):lds (xs.map O.d)=some xs:=zfJ xs
@[simp] theorem zoz:fLen o=match els o with | some (_,os)=>some (.d (.int os.length)) | none=>zjP o:=rfl
@[simp] theorem zpT (xs:List V):zjP (.q xs)=some (.d (.int xs.length)):=rfl
@[simp] theorem znm (ms:List Bool) (F:FC) (R:AF):zaq ms F R ρ=(R ρ).bind fun rs ρ1 q=>match pass ms rs ρ1 with
 | some (os,is,ρ2)=>match F os with
  | .bad=>.bad
  | .ok o outs=>if ms.all (fun m=>!m)&&scl o then .ok (.own o) ρ1 false else .ok (.own o) (zd5 is outs ρ2) false
  | .ex c outs=>.ex c (zd5 is outs ρ2)
 | none=>.bad:=rfl
@[simp] theorem zou:pass [] [] ρ=some ([],[],ρ):=rfl
@[simp] theorem zpQ (ms:List Bool) (r:Rv) (rs:List Rv):pass (false::ms) (r::rs) ρ=match coe ρ r with
  | some (o,ρ1)=>match pass ms rs ρ1 with
   | some (os,is,ρ2)=>some (o::os,is,ρ2)
   | none=>none
  | none=>none:=rfl
@[simp] theorem zpr (ms:List Bool) (rs:List Rv):pass (true::ms) (.at i []::rs) ρ=match ρ[i]? with
  | some .z=>none
  | some o=>match pass ms rs (ρ.set i .z) with
   | some (os,is,ρ2)=>some (o::os,i::is,ρ2)
   | none=>none
  | none=>none:=rfl
@[simp] theorem znq (os:List O):zd5 [] os ρ=ρ:=by unfold zd5;rfl
@[simp] theorem zma (is:List Nat) (os:List O):zd5 (i::is) (o::os) ρ=zd5 is os (ρ.set i o):=rfl
@[simp] theorem zpJ:scl (.d (.int a))=true:=rfl
@[simp] theorem zoy (b:Bool):scl (.d (.bool b))=true:=rfl
@[simp] theorem zoG:scl (.d .none)=true:=rfl
@[simp] theorem zpN (s:Str):scl (.d (.str s))=true:=rfl
@[simp] theorem zoC (s:List PyData):scl (.d (.list s))=false:=rfl
@[simp] theorem zpp (s:List PyData):scl (.d (.tuple s))=false:=rfl
@[simp] theorem zqA (s:List O):scl (.l s)=false:=rfl
@[simp] theorem zqw (s:List O):scl (.t s)=false:=rfl
@[simp] theorem zo5 (ms:List Bool):zcm (true::ms) (o::ρ)=o::zcm ms ρ:=rfl
@[simp] theorem zpF (ms:List Bool):zcm (false::ms) (o::ρ)=zcm ms ρ:=rfl
@[simp] theorem zm4:zcm [] ρ=[]:=by unfold zcm;rfl
@[simp] theorem zoB (ms:List Bool) (n:Nat) (S:SF) (os:List O):runF ms n S os=match S (os++List.replicate (n - os.length) .z) with
 | .nx ρ'=>.ok (.d .none) (zcm ms ρ')
 | .rt o ρ'=>.ok o (zcm ms ρ')
 | .ex c ρ'=>.ex c (zcm ms ρ')
 | _=>.bad:=rfl
@[simp] theorem zoN (neg:Bool):fIs neg x y=if isN y&&!isZ x then some (.d (.bool (if neg then !isN x else isN x))) else none:=rfl
@[simp] theorem zoF:isN (.d .none)=true:=rfl
@[simp] theorem zpt:isN (.d (.int a))=false:=rfl
@[simp] theorem zos (s:List PyData):isN (.d (.list s))=false:=rfl
@[simp] theorem zpa (s:List PyData):isN (.d (.tuple s))=false:=rfl
@[simp] theorem zqv (s:List O):isN (.l s)=false:=rfl
@[simp] theorem zqD (s:List O):isN (.t s)=false:=rfl
@[simp] theorem zqE (s:Bool):isN (.d (.bool s))=false:=rfl
@[simp] theorem zqs (s:Str):isN (.d (.str s))=false:=rfl
@[simp] theorem zqq (x:PyData):isZ (.d x)=false:=rfl
@[simp] theorem zqy (s:List O):isZ (.l s)=false:=rfl
@[simp] theorem zqt (s:List O):isZ (.t s)=false:=rfl
end
section
variable {A B C:EF} {AA:AF} {ρ ρ1 ρ2 ρ3 ρ4:Rho} {r ra rb:Rv} {rs:List Rv} {q q1 q2 q3:Bool} {o x y z:O} {os outs:List O} {is:List Nat} {ms:List Bool} {F:FC} {S T U:SF} {R:Rt} {V W:TF} {b c:Bool}
theorem hide {G:Prop} (h:∀P:Prop,(G->P)->P):G:=h G id
theorem zas (h:S ρ=.nx ρ1) (k:T ρ1=R):sSeq S T ρ=R:=by unfold sSeq;rw[h];exact k
theorem zgD (h:S ρ=.rt o ρ1):sSeq S T ρ=.rt o ρ1:=by unfold sSeq;rw[h]
theorem zaC {take:Rho->Rv->Option (O×Rho)} {G:GF} (h:A ρ=.ok r ρ1 q) (ht:take ρ1 r=some (o,ρ2)) (hg:G o ρ2=some ρ3):sAsg take A G ρ=.nx ρ3:=by
 unfold sAsg;rw[h];dsimp only;rw[ht];dsimp only;rw[hg]
theorem zc9 (hA:AA ρ=.ok rs ρ1 q) (hp:pass ms rs ρ1=some (os,is,ρ2)) (hF:F os=.ok o outs) (hs:(ms.all (fun m=>!m)&&scl o)=true):zaq ms F AA ρ=.ok (.own o) ρ1 false:=by
 unfold zaq;rw[hA];dsimp only[Re.bind];rw[hp];dsimp only;rw[hF];dsimp only;rw[if_pos hs]
theorem zaO (hA:AA ρ=.ok rs ρ1 q) (hp:pass ms rs ρ1=some (os,is,ρ2)) (hF:F os=.ok o outs) (hs:(ms.all (fun m=>!m)&&scl o)=false) (hb:zd5 is outs ρ2=ρ3):zaq ms F AA ρ=.ok (.own o) ρ3 false:=by
 unfold zaq;rw[hA];dsimp only[Re.bind];rw[hp];dsimp only;rw[hF];dsimp only;rw[if_neg (by rw[hs];simp),hb]
theorem zad (h:A ρ=.ok r ρ1 q1) (k:AA ρ1=.ok rs ρ2 q2) (p:pok ρ1 q2 r=true):zae A AA ρ=.ok (r::rs) ρ2 (q1&&q2):=by
 unfold zae;rw[h];dsimp only[Re.bind];rw[k];dsimp only[Re.bind];rw[if_pos p]
theorem zaD {f:O->O->Option O} (h:A ρ=.ok ra ρ1 q1) (k:B ρ1=.ok rb ρ2 q2) (p:pok ρ1 q2 ra=true) (hx:vn ρ2 ra=some x) (hy:vn ρ2 rb=some y) (hf:f x y=some z):e2 A B f ρ=.ok (.own z) ρ2 (q1&&q2):=by
 unfold e2;rw[h];dsimp only[Re.bind];rw[k];dsimp only[Re.bind];rw[if_pos p,hx,hy];dsimp only;rw[hf]
theorem znF {f:O->Option O} (h:A ρ=.ok ra ρ1 q1) (hx:vn ρ1 ra=some x) (hf:f x=some z):e1 A f ρ=.ok (.own z) ρ1 q1:=by
 unfold e1;rw[h];dsimp only[Re.bind];rw[hx];dsimp only;rw[hf]
theorem zgK {f:List O->Option O} (h:AA ρ=.ok rs ρ1 q1) (hx:vns ρ1 rs=some os) (hf:f os=some z):eB AA f ρ=.ok (.own z) ρ1 q1:=by
 unfold eB;rw[h];dsimp only[Re.bind];rw[hx];dsimp only;rw[hf]
theorem zaP {take:Rho->List Rv->Option (List O×Rho)} {mk:List O->O} (h:AA ρ=.ok rs ρ1 q1) (ht:take ρ1 rs=some (os,ρ2)) (hl:os.length<=sizeLine) (hm:mk os=o):zaL take mk AA ρ=.ok (.own o) ρ2 q1:=by
 unfold zaL;rw[h];dsimp only[Re.bind];rw[ht];dsimp only;rw[if_pos hl,hm]
theorem za1 {α:Type} {dec:O->Option α} {a:α} (h:A ρ=.ok r ρ1 q) (hx:vn ρ1 r=some x) (hd:dec x=some a):eSc dec A ρ=.ok a ρ1 q:=by
 unfold eSc;rw[h];dsimp only[Re.bind];rw[hx];dsimp only;rw[hd]
theorem zck {i:Int} (h:A ρ=.ok ra ρ1 q1) (k:eSc decI B ρ1=.ok i ρ2 q2) (p:pok ρ1 q2 ra=true) (g:gIx ρ2 ra i=some r):eIx A B ρ=.ok r ρ2 (q1&&q2):=by
 unfold eIx;rw[h];dsimp only[Re.bind];rw[k];dsimp only[Re.bind];rw[if_pos p,g]
theorem za0 (h:A ρ=.ok r ρ1 q) (hv:vn ρ1 r=some (.d (.bool b))):tst A ρ=.ok b ρ1 q:=by
 unfold tst;rw[h];dsimp only;rw[hv]
theorem zb8 {α β:Type} {G:Rho->Re α} {H:α->Rho->Re β} {a:α} {d:β} (h:G ρ=.ok a ρ1 q1) (k:H a ρ1=.ok d ρ2 q2):zbF G H ρ=.ok d ρ2 (q1&&q2):=by
 unfold zbF;rw[h];dsimp only[Re.bind];rw[k]
theorem zic (h:V ρ=.ok true ρ1 q):gNot V ρ=.ok false ρ1 (q&&true):=zb8 h rfl
theorem or_f (h:V ρ=.ok false ρ1 q1) (k:W ρ1=.ok c ρ2 q2):gOr V W ρ=.ok c ρ2 (q1&&q2):=zb8 h k
theorem or_t (h:V ρ=.ok true ρ1 q1):gOr V W ρ=.ok true ρ1 (q1&&true):=zb8 h rfl
theorem zg5 (h:V ρ=.ok true ρ1 q1) (k:W ρ1=.ok c ρ2 q2):gAnd V W ρ=.ok c ρ2 (q1&&q2):=zb8 h k
theorem if_f (h:V ρ=.ok false ρ1 q) (k:T ρ1=R):sIf V S T ρ=R:=by unfold sIf;rw[h];exact k
theorem if_t (h:V ρ=.ok true ρ1 q) (k:S ρ1=R):sIf V S T ρ=R:=by unfold sIf;rw[h];exact k
theorem zbX {take:Rho->Rv->Option (O×Rho)} (h:A ρ=.ok r ρ1 q) (ht:take ρ1 r=some (o,ρ2)):sRet take A ρ=.rt o ρ2:=by
 unfold sRet;rw[h];dsimp only;rw[ht]
theorem zd2 (h:A ρ=.ok r ρ1 q):zcW A ρ=.nx ρ1:=by unfold zcW;rw[h]
theorem zmu (h:V ρ=.ok b ρ1 q):eOfB V ρ=.ok (.own (.d (.bool b))) ρ1 q:=by unfold eOfB;rw[h];rfl
theorem zit (h:eSc decB A ρ=.ok true ρ1 q1) (k:eSc decB B ρ1=.ok c ρ2 q2):eAnd A B ρ=.ok (.own (.d (.bool c))) ρ2 (q1&&q2):=zmu (zb8 h k)
theorem zgi (h:C ρ=.ok ra ρ1 q1) (l:isL ρ1 ra=true) (k:A ρ1=.ok rb ρ2 q2) (p:pok ρ1 q2 ra=true) (ht:coe ρ2 rb=some (o,ρ3)) (hp:zdz ρ3 ra (fun os=>if os.length < sizeLine then some (os++[o]) else none)=some ρ4):eApp C A ρ=.ok (.own (.d .none)) ρ4 false:=by
 unfold eApp;rw[h];dsimp only[Re.bind];rw[if_pos l,k];dsimp only[Re.bind];rw[if_pos p,ht];dsimp only;rw[hp]
theorem zfi {I:Rho->Re (List O)} {G:GF} {items:List O} (h:I ρ=.ok items ρ1 q) (k:forF G S items ρ1=R):sFor I G S ρ=R:=by unfold sFor;rw[h];exact k
theorem zfg {j:Int} {n:Nat} (h:eSc decI A ρ=.ok j ρ1 q) (ok:okR j=true) (hn:j.toNat=n):itR1 A ρ=.ok (rngO 0 n) ρ1 q:=by unfold itR1;rw[h];dsimp only[Re.bind];rw[if_pos ok,hn]
theorem zmT {I:Rho->Re (List O)} {js:List (Option Nat)} {G:GF} {items:List O} (h:I ρ=.ok items ρ1 q1) (hl:items.length<=sizeLine) (k:lcF js G V A items ρ1 [] true=.ok os ρ2 q2):eLC I js G V A ρ=.ok (.own (.l os)) ρ2 (q1&&q2):=by
 unfold eLC;rw[h];dsimp only;rw[if_pos hl,k]
theorem zfC {i:Nat} {xs:List O} {d:PyData} (h:ρ[i]? = some (.l xs)) (f:fz (.l xs)=some d):coe ρ (.at i [])=some (.d d,ρ.set i (.d d)):=by simp[coe,h,sub,f]
theorem zoV {i:Nat} {xs:List O} {d:PyData} (h:ρ[i]? = some (.t xs)) (f:fz (.t xs)=some d):coe ρ (.at i [])=some (.d d,ρ.set i (.d d)):=by simp[coe,h,sub,f]
theorem zcE (h:coe ρ r=some (o,ρ1)) (k:pass ms rs ρ1=some (os,is,ρ2)):pass (false::ms) (r::rs) ρ=some (o::os,is,ρ2):=by unfold pass;rw[h];dsimp only;rw[k]
theorem zkK (h:coe ρ r=some (o,ρ1)) (k:coes ρ1 rs=some (os,ρ2)):coes ρ (r::rs)=some (o::os,ρ2):=by unfold coes;rw[h];dsimp only;rw[k]
theorem zdn {n:Nat} {ρ0:Rho} (h0:os++List.replicate (n - os.length) .z=ρ0) (h:S ρ0=.rt o ρ1) (hl:zcm ms ρ1=outs):runF ms n S os=.ok o outs:=by
 unfold runF;rw[h0,h];dsimp only;rw[hl]
theorem zjm {n:Nat} {i:Int} (h0:0<=i) (h1:i < n):ixN n i=some i.toNat:=by unfold ixN;rw[if_pos h0,if_pos h1]
theorem zfG {xs:List O} {k:Nat} {i:Int} {d:PyData} (hj:xs[i.toNat]? = some (.d d)) (h0:0<=i) (h1:i < xs.length) (hk:ρ[k]? = some (.l xs)):gIx ρ (.at k []) i=some (.own (.d d)):=by
 unfold gIx;simp[nz,vn,vw,hk,sub,els,zjm h0 h1,hj,zfV]
theorem zhT {xs:List O} {i:Int} {d:PyData} (hj:xs[i.toNat]? = some (.d d)) (h0:0<=i) (h1:i < xs.length):gIx ρ (.own (.l xs)) i=some (.own (.d d)):=by
 unfold gIx;simp[nz,vn,vw,els,zjm h0 h1,hj,zfV]
theorem zds {xs:List O} {k:Nat} (hk:ρ[k]? = some (.l xs)) (hl:xs.length < sizeLine):zdz ρ (.at k []) (fun os=>if os.length < sizeLine then some (os++[o]) else none)=some (ρ.set k (.l (xs++[o]))):=by
 unfold zdz;simp[hk,sub,put,hl]
theorem zne {n:Nat} {ρ0:Rho} (h0:os++List.replicate (n - os.length) .z=ρ0) (h:S ρ0=.nx ρ1) (hl:zcm ms ρ1=outs):runF ms n S os=.ok (.d .none) outs:=by
 unfold runF;rw[h0,h];dsimp only;rw[hl]
end
end L2
namespace L2
open PySem PySem.Spec PyProof.Rows
section
variable {mg:Str->Option Value} {K:PySem.W.Frag} {H H':Hp} {W W':Addr->Prop}
end
section
variable {mg:Str->Option Value} {K:PySem.W.Frag} {E:XK} {L:List Nat}
end
section
variable {X:Cx} {E:XK} {L:List Nat}
end
section
variable {X:Cx}
end
def sBad:SF:=fun _=>.bad
section
variable {X:Cx} {E:XK} {L:List Nat}
theorem zfw {st:Stmt}:VS X E L st sBad:=fun _ _ _ _ _ _ h=>by
 obtain ⟨_,_,_,_,q⟩:=h;exact False.elim q
end
end L2
noncomputable section
namespace My
open PySem L2
def zdk:SF:=(sSeq (sIf (tst (e2 (zab 1) (eB (zae (zab 0) aNil) (f1 fLen)) fLt)) (sRet mov (eIx (zab 0) (zab 1))) sNil)
  (sRet mov (eC (.int 0))))
def zcz:FC:=runF [false,false] 2 zdk
def zcs:SF:=(sSeq (sAsg coe (zaq [false,false] zcz (zae (zab 0) (zae (zab 1) aNil))) (gtN 2))
  (sRet coe (zaL coes .l (zae (eB (zae (e2 (zab 2) (e2 (eC (.int 10)) (eC (.int 18)) fPow) fSub) (zae (eC (.int 0)) aNil)) (f2I fun i j=>if j > i then j else i)) (zae (e2 (zab 2) (eC (.int 2147483647)) fMod) (zae (e2 (eC (.int 1000)) (zab 1) fMul) aNil))))))
def zbr:FC:=runF [false,false] 3 zcs
def zco:SF:=(sSeq (sAsg coe (e2 (e2 (e2 (e2 (e2 (zab 0) (eC (.int 1103515245)) fMul) (e2 (e2 (eC (.int 7919)) (zab 1) fMul) (zab 1) fMul) fAdd) (zab 1) fAdd) (eC (.int 1)) fAdd) (eC (.int 2147483647)) fMod) (gtN 2))
  (sSeq (sAsg coe (e2 (e2 (e2 (zab 2) (zab 2) fMul) (eC (.int 69621)) fAdd) (eC (.int 2147483629)) fMod) (gtN 2))
  (sRet mov (e2 (e2 (zab 2) (eC (.int 48271)) fMul) (eC (.int 2147483587)) fMod))))
def zbP:FC:=runF [false,false] 3 zco
def zbI:SF:=(sSeq (sSub coe (e2 (eIx (zab 0) (eC (.int 2))) (eC (.int 1)) fAdd) (zab 0) (eC (.int 2)))
  (sAsg coe (e2 (e2 (zab 3) (eC (.int 2147483587)) fMul) (zaq [false,false] zbP (zae (eIx (zab 0) (eC (.int 1))) (zae (eIx (zab 0) (eC (.int 2))) aNil))) fAdd) (gtN 3)))
def zcG:SF:=(sSeq (sIf (tst (e2 (eIx (zab 0) (eC (.int 0))) (eC (.int 0)) fGt)) (sSeq (sAsg coe (e2 (eIx (zab 0) (eC (.int 0))) (zab 1) fMod) (gtN 2))
  (sSeq (sSub coe (e2 (eIx (zab 0) (eC (.int 0))) (zab 1) fDiv) (zab 0) (eC (.int 0)))
  (sRet mov (zab 2)))) sNil)
  (sSeq (sAsg coe (eC (.int 0)) (gtN 3))
  (sSeq (sFor (itR1 (e2 (eC (.int 1)) (e2 (e1 (zab 1) zij) (eC (.int 30)) fDiv) fAdd)) (gtN 4) zbI)
  (sRet mov (e2 (zab 3) (zab 1) fMod)))))
def zag:FC:=runF [true,false] 5 zcG
def zb5:SF:=(sSeq (sAsg coe (eIx (zaL coes .l (zae (eC (.int 1)) (zae (eC (.int 4)) (zae (eC (.int 30)) (zae (zab 1) aNil))))) (zaq [true,false] zag (zae (zab 0) (zae (eC (.int 4)) aNil)))) (gtN 2))
  (sRet coe (e2 (zaq [true,false] zag (zae (zab 0) (zae (e2 (e2 (eC (.int 2)) (zab 2) fMul) (eC (.int 1)) fAdd) aNil))) (zab 2) fSub)))
def zbi:FC:=runF [true,false] 3 zb5
def zbp:EF:=(zaq [true,false] zbi (zae (zab 1) (zae (e2 (eC (.int 10)) (eC (.int 8)) fPow) aNil)))
def zbO:SF:=(sSeq (sAsg coe (zaq [true,false] zag (zae (zab 0) (zae (zab 3) aNil))) (gtN 7))
  (sSeq (sAsg coe (zaq [true,false] zag (zae (zab 0) (zae (zab 3) aNil))) (gtN 8))
  (sSeq (sAsg coe (eIx (zaL coes .l (zae (eC (.int 0)) (zae (eC (.int 0)) (zae (zaq [true,false] zag (zae (zab 0) (zae (eC (.int 4)) aNil))) (zae (zaq [true,false] zag (zae (zab 0) (zae (e2 (eC (.int 10)) (eC (.int 8)) fPow) aNil))) aNil))))) (zaq [true,false] zag (zae (zab 0) (zae (eC (.int 4)) aNil)))) (gtN 9))
  (sSeq (zcW (eApp (zab 5) (zaL coes mkT (zae (zab 7) (zae (zab 8) (zae (e2 (e2 (eIx (zab 4) (zab 8)) (eIx (zab 4) (zab 7)) fSub) (zab 9) fAdd) aNil))))))
  (sIf (tst (e2 (zaq [true,false] zag (zae (zab 0) (zae (eC (.int 8)) aNil))) (eC (.int 0)) (fEq false))) (zcW (eApp (zab 5) (eIx (zab 5) (zaq [true,false] zag (zae (zab 0) (zae (eB (zae (zab 5) aNil) (f1 fLen)) aNil)))))) sNil)))))
def zcX:SF:=(sSeq (sAsg coe (zaq [true,false] zag (zae (zab 0) (zae (e2 (zab 1) (eC (.int 1)) fAdd) aNil))) (gtN 3))
  (sSeq (sAsg coe (eLC (itR1 (zab 3)) [none,some 0] (gtN 0) (gRet true) zbp) (gtN 4))
  (sSeq (sAsg coe (zaL coes .l aNil) (gtN 5))
  (sSeq (sFor (itR1 (e2 (zaq [true,false] zag (zae (zab 0) (zae (e2 (zab 2) (eC (.int 1)) fAdd) aNil))) (eB (zae (e2 (zab 3) (eC (.int 0)) fGt) aNil) (f1 zjh)) fMul)) (gtN 6) zbO)
  (sRet mov (zaL movs mkT (zae (zab 3) (zae (zab 5) aNil))))))))
def zcg:FC:=runF [true,false,false] 10 zcX
def zcH:SF:=(sSeq (sAsg coe (zaq [true,false,false] zcg (zae (zab 0) (zae (zab 1) (zae (zab 2) aNil)))) (gtN 3))
  (sSeq (sIf (tst (e2 (eIx (zab 3) (eC (.int 0))) (eC (.int 0)) (fEq false))) (sAsg coe (zaL coes mkT (zae (eC (.int 1)) (zae (zaL coes .l (zae (zaL coes mkT (zae (eC (.int 0)) (zae (eC (.int 0)) (zae (eC (.int 3)) aNil)))) aNil)) aNil))) (gtN 3)) sNil)
  (sRet mov (zab 3))))
def zbj:FC:=runF [true,false,false] 4 zcH
def zcN:SF:=(sRet coe (zaL coes mkT (zae (eIx (zab 0) (eC (.int 0))) (zae (eB (zae (eIx (zab 0) (eC (.int 1))) aNil) (f1 zeF)) aNil))))
def zaM:FC:=runF [false] 1 zcN
def zb9:EF:=(zaq [true,false] zbi (zae (zab 1) (zae (e2 (eC (.int 10)) (eC (.int 8)) fPow) aNil)))
def zbE:SF:=(sSeq (sAsg coe (zaq [true,false] zag (zae (zab 0) (zae (eC (.int 20)) aNil))) (gtN 4))
  (sSeq (sAsg coe (eIx (zaL coes .l (zae (e2 (e2 (zab 4) (eC (.int 1)) fAdd) (eC (.int 20)) fMod) (zae (zaq [true,false] zag (zae (zab 0) (zae (eC (.int 20)) aNil))) aNil))) (zaq [true,false] zag (zae (zab 0) (zae (eC (.int 2)) aNil)))) (gtN 5))
  (zcW (eApp (zab 2) (zaL coes mkT (zae (zab 4) (zae (zab 5) (zae (e2 (e2 (eIx (zab 1) (zab 5)) (eIx (zab 1) (zab 4)) fSub) (zaq [true,false] zag (zae (zab 0) (zae (eC (.int 3)) aNil))) fAdd) aNil))))))))
def zcF:SF:=(sSeq (sAsg coe (eLC (itR1 (eC (.int 20))) [none,some 0] (gtN 0) (gRet true) zb9) (gtN 1))
  (sSeq (sAsg coe (zaL coes .l aNil) (gtN 2))
  (sSeq (sFor (itR1 (eC (.int 60))) (gtN 3) zbE)
  (sRet mov (zaL movs mkT (zae (eC (.int 20)) (zae (zab 2) aNil)))))))
def zby:FC:=runF [true] 6 zcF
def zcJ:SF:=(sRet mov (eOfB (zdA (eC (.int 0)) (zab 1) (zab 0) (fun i j=>decide (i<=j)) (fun i j=>decide (i < j)))))
def zbk:FC:=runF [false,false] 2 zcJ
def zc2:SF:=(sSeq (sAsg coe (zab 1) (gtT (zam (gtN 2) (zam (gtN 3) (zam (gtN 4) zbD)))))
  (sRet coe (eAnd (zaq [false,false] zbk (zae (zab 0) (zae (zab 2) aNil))) (eAnd (zaq [false,false] zbk (zae (zab 0) (zae (zab 3) aNil))) (eOfB (zdA (e1 (eC (.int (1000000000))) fNeg) (zab 4) (eC (.int (1000000000))) (fun i j=>decide (i<=j)) (fun i j=>decide (i<=j))))))))
def zch:FC:=runF [false,false] 5 zc2
def zbZ:SF:=(sIf (gNot (eSc trV (zaq [false,false] zch (zae (zab 1) (zae (zab 4) aNil))))) sBad sNil)
def zcp:SF:=(sSeq (sAsg coe (zab 0) (gtT (zam (gtN 1) (zam (gtN 2) zbD))))
  (sSeq (sIf (gNot (zdA (eC (.int 0)) (zab 1) (eC (.int (20))) (fun i j=>decide (i<=j)) (fun i j=>decide (i<=j)))) sBad sNil)
  (sSeq (sIf (tst (e2 (eB (zae (zab 2) aNil) (f1 fLen)) (eC (.int (60))) fGt)) sBad sNil)
  (sFor (itE (zab 2)) (gtT (zam (gtN 3) (zam (gtN 4) zbD))) zbZ))))
def zbR:FC:=runF [false] 5 zcp
def zb0:SF:=(sIf (gNot (eSc trV (zaq [false,false] zbk (zae (eIx (zab 0) (eC (.int 0))) (zae (zab 1) aNil))))) sBad sNil)
def za7:FC:=runF [false,false] 2 zb0
def zbC:SF:=(sSeq (zcW (zaq [false] zbR (zae (zab 0) aNil)))
  (sSeq (zcW (zaq [false,false] za7 (zae (zab 0) (zae (zab 1) aNil))))
  (zcW (zaq [false,false] za7 (zae (zab 0) (zae (zab 2) aNil))))))
def za9:FC:=runF [false,false,false] 3 zbC
def zbn:SF:=(sIf (tst (e2 (e2 (eIx (zab 1) (zab 5)) (zab 7) fAdd) (eIx (zab 1) (zab 6)) fLt)) (sSeq (sSub coe (e2 (eIx (zab 1) (zab 5)) (zab 7) fAdd) (zab 1) (zab 6))
  (sSeq (sSub coe (zab 4) (zab 2) (zab 6))
  (sAsg coe (zab 6) (gtN 3)))) sNil)
def zce:SF:=(sSeq (sAsg coe (eC .none) (gtN 3))
  (sSeq (sFor (itE (zab 0)) (gtT (zam (gtN 4) (zam (gtT (zam (gtN 5) (zam (gtN 6) (zam (gtN 7) zbD)))) zbD))) zbn)
  (sRet mov (zab 3))))
def zbH:FC:=runF [false,true,true] 8 zce
def zci:SF:=(sSeq (sAsg coe (zaq [false,true,true] zbH (zae (zab 3) (zae (zab 4) (zae (zab 5) aNil)))) (gtN 6))
  (sIf (tst (e2 (zab 6) (eC .none) (fIs false))) sBrk sNil))
def zdH:SF:=(sSeq (sAsg coe (zab 0) (gtT (zam (gtN 2) (zam (gtN 3) zbD))))
  (sSeq (sAsg coe (eB (zae (zab 1) aNil) (f1 zeF)) (gtN 4))
  (sSeq (sAsg coe (e2 (zaL coes .l (zae (eC .none) aNil)) (zab 2) fMul) (gtN 5))
  (sSeq (sAsg coe (eC .none) (gtN 6))
  (sSeq (sFor (itR1 (zab 2)) (gtN 7) zci)
  (sRet mov (zaL movs mkT (zae (zab 4) (zae (zab 5) (zae (zab 6) aNil))))))))))
def zcT:FC:=runF [false,false] 8 zdH
def zcf:SF:=(sSeq (sAsg coe (zaq [false,false] zcT (zae (zab 0) (zae (e2 (zaL coes .l (zae (eC (.int 0)) aNil)) (eIx (zab 0) (eC (.int 0))) fMul) aNil))) (gtT (zam (gtN 1) (zam (gtN 2) (zam (gtN 3) zbD)))))
  (sIf (tst (e2 (zab 3) (eC .none) (fIs true))) sBad sNil))
def zbK:FC:=runF [false] 4 zcf
end My
end
namespace My
open PySem L2
abbrev Road:=Int×Int×Int
def zav (r:Road):PyData:=.tuple [.int r.1,.int r.2.1,.int r.2.2]
def zau (rs:List Road):PyData:=.list (rs.map zav)
def netD (n:Int) (rs:List Road):PyData:=.tuple [.int n,zau rs]
def zeI (ns:List Int):PyData:=.list (ns.map .int)
def zkC (n:Int) (r:Road):Prop:=(0<=r.1/\r.1 < n)/\(0<=r.2.1/\r.2.1 < n)/\(-1000000000<=r.2.2/\r.2.2<=1000000000)
structure zbM (n:Int) (rs:List Road):Prop where
 n0:0<=n
 n1:n<=20
 len:rs.length<=60
 rd:∀r∈rs,zkC n r
def zaI (rs:List Road) (k:Int):Option Road:=if 0<=k/\k < rs.length then rs[k.toNat]? else none
theorem zcd {rs:List Road} {k:Int} {r:Road} (h:zaI rs k=some r):0<=k/\k < rs.length/\rs[k.toNat]? = some r:=by
 unfold zaI at h;split at h
 .rename_i hk;exact ⟨hk.1,hk.2,h⟩
 .cases h
theorem zi7 {rs:List Road} {k:Int} (h0:0<=k) (h1:k < rs.length):∃r,zaI rs k=some r/\rs[k.toNat]? = some r:=by
 have hk:k.toNat < rs.length:=by omega
 refine ⟨rs[k.toNat], ?_,by simp[hk]⟩;unfold zaI;rw[if_pos ⟨h0,h1⟩];simp[hk]
theorem zc5 {rs:List Road} {k:Int} {r:Road} (h:zaI rs k=some r):r∈rs:=List.mem_of_getElem? (zcd h).2.2
def zbf (rs:List Road):Int->Int->List Int->Bool
 | p,q,[]=>decide (p=q)
 | p,q,k::ws=>match zaI rs k with
  | some r=>if r.1=p then zbf rs r.2.1 q ws else false
  | none=>false
def zeD (rs:List Road) (k:Int):Int:=match zaI rs k with
 | some r=>r.2.2
 | none=>0
def zbB (rs:List Road) (ws:List Int):Int:=(ws.map (zeD rs)).sum
def zlD (rs:List Road) (ws:List Int):Prop:=∀k∈ws,0<=k/\k < rs.length
theorem zhv {rs:List Road}:∀{ws:List Int} {p q:Int},zbf rs p q ws=true->zlD rs ws
 | [],_,_,_=>fun _ h=>by simp at h
 | k::ws,p,q,h=>by
  unfold zbf at h
  cases e:zaI rs k with
  | none=>rw[e] at h;cases h
  | some r=>
   rw[e] at h;simp only at h;split at h
   .intro j hj;rcases List.mem_cons.mp hj with rfl | hj
    .exact ⟨(zcd e).1,(zcd e).2.1⟩
    .exact zhv h j hj
   .cases h
end My
namespace L2
end L2
namespace My
open PySem L2
end My
namespace L2
end L2
namespace My
open PySem L2 PySem.SeqAt
mutual
theorem zeL:∀d:PyData,d.canLay0=true->PyData.eqv d d=true
 | .none,_=>rfl
 | .bool b,_=>by simp[PyData.eqv]
 | .int i,_=>by simp[PyData.eqv]
 | .str x,_=>by simp[PyData.eqv]
 | .list xs,h=>by
  simp only[PyData.eqv];exact zdS xs (by simpa [PyData.canLay0] using h)
 | .tuple xs,h=>by
  simp only[PyData.eqv];exact zdS xs (by simpa [PyData.canLay0] using h)
 | .dict _,h=>by simp[PyData.canLay0] at h
theorem zdS:∀ds:List PyData,PyData.canLayAll0 ds=true->PyData.eqvAll ds ds=true
 | [],_=>rfl
 | d::ds,h=>by
  simp only[PyData.canLayAll0,Bool.and_eq_true] at h;simp only[PyData.eqvAll,Bool.and_eq_true];exact ⟨zeL d h.1,zdS ds h.2⟩
end
end My
namespace My
open PySem L2
def zni (n B:Int) (r:Road):Prop:=(0<=r.1/\r.1 < n)/\(0<=r.2.1/\r.2.1 < n)/\(-B<=r.2.2/\r.2.2<=B)
structure NetB (n B:Int) (most many:Nat) (rs:List Road):Prop where
 n0:0<=n
 n1:n<=most
 len:rs.length<=many
 rd:∀r∈rs,zni n B r
theorem NetB.ok {n B:Int} {most many:Nat} {rs:List Road} (h:NetB n B most many rs) (h1:most<=20) (h2:many<=60) (h3:B<=1000000000):zbM n rs:=
 ⟨h.n0,by have:=h.n1;omega,by have:=h.len;omega,fun r hr=>by
  obtain ⟨a,b,c⟩:=h.rd r hr;exact ⟨a,b,by omega,by omega⟩⟩
def optD:Option Int->PyData
 | none=>.none
 | some i=>.int i
def rowD (r:List (Option Int)):PyData:=.list (r.map optD)
theorem zdm {α:Type} (f:α->Nat->α) (a:α) (k:Nat):(List.range (k+1)).foldl f a=f ((List.range k).foldl f a) k:=by
 rw[List.range_succ,List.foldl_append];rfl
inductive Wk (rs:List Road):Int->Int->Int->Prop where
 | nil (p:Int):Wk rs p p 0
 | cons {r:Road} {q L:Int}:r∈rs->Wk rs r.2.1 q L->Wk rs r.1 q (r.2.2+L)
theorem Wk.cast {rs:List Road} {p q L M:Int} (h:Wk rs p q L) (e:L=M):Wk rs p q M:=e ▸ h
theorem Wk.trans {rs:List Road} {p q s L M:Int} (h:Wk rs p q L) (g:Wk rs q s M):Wk rs p s (L+M):=by
 induction h with
 | nil p=>exact g.cast (by omega)
 | cons hr _ ih=>exact (Wk.cons hr (ih g)).cast (by omega)
theorem Wk.one {rs:List Road} {r:Road} (h:r∈rs):Wk rs r.1 r.2.1 r.2.2:=(Wk.cons h (.nil _)).cast (by omega)
def Taut (rs:List Road):Prop:=∀p L,Wk rs p p L->0<=L
def Pot (rs:List Road) (h:Int->Int):Prop:=∀r∈rs,h r.2.1<=h r.1+r.2.2
theorem Pot.wk {rs:List Road} {h:Int->Int} (P:Pot rs h) {p q L:Int} (w:Wk rs p q L):h q<=h p+L:=by
 induction w with
 | nil p=>omega
 | cons hr _ ih=>have:=P _ hr;omega
theorem Pot.taut {rs:List Road} {h:Int->Int} (P:Pot rs h):Taut rs:=fun p L w=>by have:=P.wk w;omega
theorem zeM {rs:List Road} {k:Int} {r:Road} (h:zaI rs k=some r):zeD rs k=r.2.2:=by unfold zeD;rw[h]
theorem zd6 (rs:List Road) (k:Int) (ws:List Int):zbB rs (k::ws)=zeD rs k+zbB rs ws:=by unfold zbB;simp
theorem zie (rs:List Road) (a b:List Int):zbB rs (a++b)=zbB rs a+zbB rs b:=by unfold zbB;simp
theorem zhI {rs:List Road}:∀{ws:List Int} {p q:Int},zbf rs p q ws=true->Wk rs p q (zbB rs ws)
 | [],p,q,h=>by
  have:p=q:=by simpa [zbf] using h
  subst this;exact .nil p
 | k::ws,p,q,h=>by
  unfold zbf at h
  cases e:zaI rs k with
  | none=>rw[e] at h;cases h
  | some r=>
   rw[e] at h;simp only at h;split at h
   .rename_i hp;subst hp;rw[zd6,zeM e];exact .cons (zc5 e) (zhI h)
   .cases h
def up1 {α:Type} (h:Int->α) (v:Int) (a:α):Int->α:=fun x=>if x=v then a else h x
theorem zcv {α:Type} (h:Int->α) (v:Int) (a:α):up1 h v a v=a:=if_pos rfl
theorem zcj {α:Type} (h:Int->α) {v x:Int} (a:α) (hx:x≠v):up1 h v a x=h x:=if_neg hx
structure Bf where
 h:Int->Int
 e:Int->Option Int
 l:Option Int
def zgz (rs:List Road) (b:Bf) (k:Nat):Bf:=match rs[k]? with
 | some r=>if b.h r.1+r.2.2 < b.h r.2.1 then ⟨up1 b.h r.2.1 (b.h r.1+r.2.2),up1 b.e r.2.1 (some (k:Int)),some r.2.1⟩ else b
 | none=>b
def bfTo (rs:List Road) (b:Bf) (k:Nat):Bf:=(List.range k).foldl (zgz rs) { b with l:=none }
def za3 (rs:List Road) (b:Bf):Bf:=bfTo rs b rs.length
def zcw (rs:List Road):Nat->Bf->Bf
 | 0,b=>b
 | k+1,b=>if (za3 rs b).l=none then za3 rs b else zcw rs k (za3 rs b)
def zbW (n:Nat) (rs:List Road) (s:Int->Int):Bf:=zcw rs n ⟨s,fun _=>none,none⟩
def Bk (rs:List Road) (e:Int->Option Int):Int->Int->List Int->Prop
 | x,y,[]=>x=y
 | x,y,k::ws=>e x=some k/\∃r,zaI rs k=some r/\Bk rs e r.1 y ws
structure BI (rs:List Road) (s h:Int->Int) (e:Int->Option Int):Prop where
 snd:∀v,∃u L,Wk rs u v L/\h v=s u+L
 ent:∀v k,e v=some k->∃r,zaI rs k=some r/\r.2.1=v/\h r.1+r.2.2<=h v/\h v < s v
 non:∀v,e v=none->h v=s v
 neg:∀x ws,ws≠[]->Bk rs e x x ws->zbB rs ws < 0
theorem zex {rs:List Road} {k:Nat} {r:Road} (h:rs[k]? = some r):zaI rs (k:Int)=some r:=by
 have hk:=(List.getElem?_eq_some_iff.mp h).1;unfold zaI;rw[if_pos ⟨by omega,by omega⟩,Int.toNat_natCast,h]
theorem BI.start (rs:List Road) (s:Int->Int):BI rs s s (fun _=>none) where
 snd:=fun v=>⟨v,0,.nil v,by omega⟩
 ent:=fun v k h=>by cases h
 non:=fun v _=>rfl
 neg:=fun x ws hw h=>by
  cases ws with
  | nil=>exact absurd rfl hw
  | cons k ws=>cases h.1
theorem BI.step {rs:List Road} {s h:Int->Int} {e:Int->Option Int} (B:BI rs s h e) {k:Nat} {r:Road} (hr:rs[k]? = some r) (hlt:h r.1+r.2.2 < h r.2.1) :
  BI rs s (up1 h r.2.1 (h r.1+r.2.2)) (up1 e r.2.1 (some (k:Int))):=by
 have hrk:=zex hr;have hmem:=zc5 hrk;have hle:∀x,up1 h r.2.1 (h r.1+r.2.2) x<=h x:=fun x=>by
  by_cases hx:x=r.2.1
  .rw[hx,zcv];omega
  .rw[zcj _ _ hx];exact Int.le_refl _
 have ent':∀v j,up1 e r.2.1 (some (k:Int)) v=some j->∃r',zaI rs j=some r'/\r'.2.1=v/\up1 h r.2.1 (h r.1+r.2.2) r'.1+r'.2.2<=up1 h r.2.1 (h r.1+r.2.2) v/\up1 h r.2.1 (h r.1+r.2.2) v < s v/\(r'.1=r.2.1->up1 h r.2.1 (h r.1+r.2.2) r'.1+r'.2.2 < up1 h r.2.1 (h r.1+r.2.2) v):=by
  intro v j hv
  by_cases hx:v=r.2.1
  .subst hx;rw[zcv] at hv;cases hv;have hs:h r.2.1<=s r.2.1:=by
    cases hh:e r.2.1 with
    | none=>rw[B.non _ hh];exact Int.le_refl _
    | some j=>obtain ⟨_,_,_,_,q⟩:=B.ent _ _ hh;omega
   refine ⟨r,hrk,rfl, ?_, ?_, ?_⟩
   .rw[zcv];have:=hle r.1;omega
   .rw[zcv];omega
   .intro hu;rw[hu,zcv];rw[hu] at hlt;rw[<-hu] at *;omega
  .rw[zcj _ _ hx] at hv;obtain ⟨r',h1,h2,h3,h4⟩:=B.ent v j hv;refine ⟨r',h1,h2, ?_, ?_, ?_⟩
   .rw[zcj _ _ hx];have:=hle r'.1;omega
   .rw[zcj _ _ hx];exact h4
   .intro hu;rw[zcj _ _ hx,hu,zcv];rw[hu] at h3;omega
 refine ⟨fun v=>?_,fun v j hv=>?_,fun v hv=>?_,fun x ws hw hb=>?_⟩
 .by_cases hx:v=r.2.1
  .obtain ⟨u,L,w,e1⟩:=B.snd r.1;refine ⟨u,L+r.2.2, ?_,by rw[hx,zcv];omega⟩;rw[hx];exact w.trans (.one hmem)
  .obtain ⟨u,L,w,e1⟩:=B.snd v;exact ⟨u,L,w,by rw[zcj _ _ hx];exact e1⟩
 .obtain ⟨r',a,b,c,d,_⟩:=ent' v j hv;exact ⟨r',a,b,c,d⟩
 .by_cases hx:v=r.2.1
  .rw[hx,zcv] at hv;cases hv
  .rw[zcj _ _ hx] at hv ⊢;exact B.non v hv
 .-- the chain is an old one,or strictly shorter
  have key:∀(ws:List Int) (x y:Int),ws≠[]->Bk rs (up1 e r.2.1 (some (k:Int))) x y ws->
    (y≠r.2.1/\(x≠r.2.1->Bk rs e x y ws)/\up1 h r.2.1 (h r.1+r.2.2) y+zbB rs ws<=up1 h r.2.1 (h r.1+r.2.2) x)\/up1 h r.2.1 (h r.1+r.2.2) y+zbB rs ws < up1 h r.2.1 (h r.1+r.2.2) x:=by
   intro ws
   induction ws with
   | nil=>intro x y hn;exact absurd rfl hn
   | cons j ws ih=>
    intro x y _ hb;obtain ⟨e1,r',hr',b'⟩:=hb;obtain ⟨r2,h1,h2,h3,h4,h5⟩:=ent' x j e1;rw[hr'] at h1;cases h1;rw[zd6,zeM hr']
    by_cases hv:r'.1=r.2.1
    .right
     have q:=h5 hv
     cases ws with
     | nil=>
      have hy:r'.1=y:=b';subst hy;simp only[zbB,List.map_nil,List.sum_nil];omega
     | cons j' ws'=>
      rcases ih r'.1 y (by simp) b' with ⟨_,_,z⟩ | z<;>omega
    .cases ws with
     | nil=>
      have hy:r'.1=y:=b';subst hy
      left
      refine ⟨hv,fun hx=>⟨by rw[zcj _ _ hx] at e1;exact e1,r',hr',rfl⟩, ?_⟩;simp only[zbB,List.map_nil,List.sum_nil];omega
     | cons j' ws'=>
      rcases ih r'.1 y (by simp) b' with ⟨z1,z2,z3⟩ | z
      .left
       exact ⟨z1,fun hx=>⟨by rw[zcj _ _ hx] at e1;exact e1,r',hr',z2 hv⟩,by omega⟩
      .right;omega
  rcases key ws x x hw hb with ⟨z1,z2,_⟩ | z
  .exact B.neg x ws hw (z2 z1)
  .omega
structure GI (rs:List Road) (b:Bf) (rd:Int->Nat) (k pos:Nat):Prop where
 en:∀v,1<=rd v->∃j r,b.e v=some j/\zaI rs j=some r/\rd v<=rd r.1+1
 ro:∀j r,rs[j]? = some r->b.h r.2.1<=b.h r.1+r.2.2\/k<=rd r.1+(if j < pos then 0 else 1)
 mx:∀v,rd v<=k
 la:∀v,b.l=some v->rd v=k
 nl:b.l=none->∀j r,j < pos->rs[j]? = some r->b.h r.2.1<=b.h r.1+r.2.2
structure BG (rs:List Road) (s:Int->Int) (b:Bf) (rd:Int->Nat) (k pos:Nat):Prop where
 bi:BI rs s b.h b.e
 gi:GI rs b rd k pos
theorem BG.step {rs:List Road} {s:Int->Int} {b:Bf} {rd:Int->Nat} {k pos:Nat} (G:BG rs s b rd (k+1) pos):∃rd',BG rs s (zgz rs b pos) rd' (k+1) (pos+1):=by
 unfold zgz
 cases e:rs[pos]? with
 | none=>
  refine ⟨rd,G.bi,G.gi.en,fun j r hj=>?_,G.gi.mx,G.gi.la,fun hn j r hj hr=>?_⟩
  .rcases G.gi.ro j r hj with z | z
   .exact .inl z
   .right
    by_cases hj2:j < pos
    .rw[if_pos hj2] at z;rw[if_pos (by omega)];exact z
    .have:j≠pos:=fun q=>by rw[q,e] at hj;cases hj
     rw[if_neg hj2] at z;rw[if_neg (by omega)];exact z
  .by_cases q:j=pos
   .rw[q,e] at hr;cases hr
   .exact G.gi.nl hn j r (by omega) hr
 | some r=>
  simp only
  by_cases hlt:b.h r.1+r.2.2 < b.h r.2.1
  .rw[if_pos hlt];have hro:k<=rd r.1:=by
    rcases G.gi.ro pos r e with z | z
    .omega
    .rw[if_neg (by omega)] at z;omega
   have hle:∀x,up1 b.h r.2.1 (b.h r.1+r.2.2) x<=b.h x:=fun x=>by
    by_cases hx:x=r.2.1
    .rw[hx,zcv];omega
    .rw[zcj _ _ hx];exact Int.le_refl _
   have hge:∀x,rd x<=up1 rd r.2.1 (k+1) x:=fun x=>by
    by_cases hx:x=r.2.1
    .rw[hx,zcv];exact G.gi.mx _
    .rw[zcj _ _ hx];exact Nat.le_refl _
   refine ⟨up1 rd r.2.1 (k+1),G.bi.step e hlt,fun v hv=>?_,fun j r' hj=>?_,fun v=>?_,fun v hv=>?_,fun hn=>by cases hn⟩
   .by_cases hx:v=r.2.1
    .subst hx;refine ⟨pos,r,zcv _ _ _,zex e, ?_⟩;rw[zcv]
     have:=hge r.1
     omega
    .rw[zcj _ _ hx] at hv ⊢;obtain ⟨j,r',h1,h2,h3⟩:=G.gi.en v hv;refine ⟨j,r',by show up1 b.e r.2.1 _ v=_;rw[zcj _ _ hx];exact h1,h2, ?_⟩
     have:=hge r'.1
     omega
   .by_cases hx:r'.1=r.2.1
    .right;rw[hx,zcv];exact Nat.le_add_right _ _
    .rw[show (Bf.mk (up1 b.h r.2.1 (b.h r.1+r.2.2)) (up1 b.e r.2.1 (some (pos:Int))) (some r.2.1)).h=up1 b.h r.2.1 (b.h r.1+r.2.2) from rfl]
     by_cases hp:j=pos
     .subst hp;rw[e] at hj;cases hj
      left
      rw[zcv,zcj _ _ hx];exact Int.le_refl _
     .rcases G.gi.ro j r' hj with z | z
      .left
       have:=hle r'.2.1
       rw[zcj _ _ hx];omega
      .right
       rw[zcj _ _ hx]
       by_cases hj2:j < pos
       .rw[if_pos hj2] at z;rw[if_pos (by omega)];exact z
       .rw[if_neg hj2] at z;rw[if_neg (by omega)];exact z
   .by_cases hx:v=r.2.1
    .rw[hx,zcv];exact Nat.le_refl _
    .rw[zcj _ _ hx];exact G.gi.mx v
   .cases hv;exact zcv _ _ _
  .rw[if_neg hlt];refine ⟨rd,G.bi,G.gi.en,fun j r' hj=>?_,G.gi.mx,G.gi.la,fun hn j r' hj hr=>?_⟩
   .by_cases hp:j=pos
    .subst hp;rw[e] at hj;cases hj;exact .inl (by omega)
    .rcases G.gi.ro j r' hj with z | z
     .exact .inl z
     .right
      by_cases hj2:j < pos
      .rw[if_pos hj2] at z;rw[if_pos (by omega)];exact z
      .rw[if_neg hj2] at z;rw[if_neg (by omega)];exact z
   .by_cases hp:j=pos
    .subst hp;rw[e] at hr;cases hr;omega
    .exact G.gi.nl hn j r' (by omega) hr
theorem BG.to {rs:List Road} {s:Int->Int} {b:Bf} {rd:Int->Nat} {k:Nat} (G:BG rs s { b with l:=none } rd (k+1) 0):∀pos,∃rd',BG rs s (bfTo rs b pos) rd' (k+1) pos
 | 0=>⟨rd,G⟩
 | pos+1=>by
  obtain ⟨rd',G'⟩:=BG.to G pos;obtain ⟨rd2,G2⟩:=G'.step;refine ⟨rd2, ?_⟩;unfold bfTo at G2 ⊢;rw[zdm];exact G2
theorem BG.next {rs:List Road} {s:Int->Int} {b:Bf} {rd:Int->Nat} {k:Nat} (G:BG rs s b rd k rs.length):BG rs s { b with l:=none } rd (k+1) 0:=
 ⟨G.bi,G.gi.en,fun j r hj=>by
  have hl:=(List.getElem?_eq_some_iff.mp hj).1;rcases G.gi.ro j r hj with z | z
  .exact .inl z
  .right
   rw[if_pos hl] at z;rw[if_neg (by omega)]
   omega,fun v=>Nat.le_succ_of_le (G.gi.mx v),fun v hv=>(by cases hv),fun _ j r hj=>by omega⟩
theorem BG.first (rs:List Road) (s:Int->Int):BG rs s ⟨s,fun _=>none,none⟩ (fun _=>0) 1 0:=
 ⟨BI.start rs s,fun v hv=>absurd hv (show ¬(1<=0) by omega),fun j r hj=>.inr (by rw[if_neg (by omega)];exact Nat.le_refl _),fun v=>Nat.zero_le _,fun v hv=>(by cases hv),fun _ j r hj=>by omega⟩
theorem zdY {rs:List Road} {s:Int->Int}:∀(m:Nat) (b:Bf) (rd:Int->Nat) (k:Nat),BG rs s { b with l:=none } rd (k+1) 0->0 < m->
  BI rs s (zcw rs m b).h (zcw rs m b).e/\(((zcw rs m b).l=none/\Pot rs (zcw rs m b).h)\/∃(v:Int) (rd':Int->Nat),(zcw rs m b).l=some v/\rd' v=k+m/\∀x,1<=rd' x->∃j r,(zcw rs m b).e x=some j/\zaI rs j=some r/\rd' x<=rd' r.1+1)
 | 0,_,_,_,_,h=>absurd h (by omega)
 | m+1,b,rd,k,G,_=>by
  obtain ⟨rd',G'⟩:=G.to rs.length;unfold zcw
  by_cases hl:(za3 rs b).l=none
  .rw[if_pos hl];exact ⟨G'.bi,.inl ⟨hl,fun r hr=>by
    obtain ⟨i,hi,e⟩:=List.getElem_of_mem hr;exact G'.gi.nl hl i r hi (by simp[hi,e])⟩⟩
  .rw[if_neg hl]
   by_cases hm:m=0
   .subst hm;refine ⟨G'.bi,.inr ?_⟩
    cases e:(za3 rs b).l with
    | none=>exact absurd e hl
    | some v=>
     exact ⟨v,rd',by unfold zcw;exact e,G'.gi.la v e,fun x hx=>G'.gi.en x hx⟩
   .have:=zdY m (za3 rs b) rd' (k+1) (BG.next G') (by omega)
    refine ⟨this.1, ?_⟩;rcases this.2 with z | ⟨v,rd2,z1,z2,z3⟩
    .exact .inl z
    .exact .inr ⟨v,rd2,z1,by omega,z3⟩
theorem zgc (n:Nat) (rs:List Road) (s:Int->Int):BI rs s (zbW n rs s).h (zbW n rs s).e:=by
 cases n with
 | zero=>exact BI.start rs s
 | succ n=>exact (zdY (n+1) _ _ 0 (BG.first rs s) (Nat.succ_pos _)).1
theorem zkU:∀(n:Nat) (f:Nat->Nat),(∀i,i<=n->f i < n)->∃i j,i < j/\j<=n/\f i=f j
 | 0,f,h=>absurd (h 0 (Nat.le_refl _)) (by omega)
 | n+1,f,h=>by
  by_cases hx:∃i,i<=n/\f i=f (n+1)
  .obtain ⟨i,hi,e⟩:=hx;exact ⟨i,n+1,by omega,Nat.le_refl _,e⟩
  .have hne:∀i,i<=n->f i≠f (n+1):=fun i hi e=>hx ⟨i,hi,e⟩
   have ha:=h (n+1) (Nat.le_refl _);obtain ⟨i,j,h1,h2,h3⟩:=zkU n (fun i=>if f i=n then f (n+1) else f i) (fun i hi=>by
    have h1:=h i (by omega);have h2:=hne i hi
    show (if f i=n then f (n+1) else f i) < n
    split<;>omega)
   refine ⟨i,j,h1,by omega, ?_⟩;have h4:=hne i (by omega);have h5:=hne j h2;have h3':(if f i=n then f (n+1) else f i)=(if f j=n then f (n+1) else f j):=h3;split at h3'<;>split at h3'<;>omega
theorem zl3 {n:Nat} (f:Nat->Int) (h:∀i,i<=n->0<=f i/\f i < n):∃i j,i < j/\j<=n/\f i=f j:=by
 obtain ⟨i,j,h1,h2,h3⟩:=zkU n (fun i=>(f i).toNat) (fun i hi=>by have:=h i hi;omega);refine ⟨i,j,h1,h2, ?_⟩
 have:=h i (by omega)
 have:=h j h2
 have h3':(f i).toNat=(f j).toNat:=h3;omega
theorem ze1 {rs:List Road}:∀{a b:List Int} {p m q:Int},zbf rs p m a=true->zbf rs m q b=true->zbf rs p q (a++b)=true
 | [],b,p,m,q,h,g=>by
  have:p=m:=by simpa [zbf] using h
  rw[this];exact g
 | k::a,b,p,m,q,h,g=>by
  unfold zbf at h;rw[List.cons_append];unfold zbf
  cases e:zaI rs k with
  | none=>rw[e] at h;cases h
  | some r=>
   rw[e] at h;simp only at h ⊢;split at h
   .rename_i hp;rw[if_pos hp];exact ze1 h g
   .cases h
theorem zgr {rs:List Road} {k:Int} {r:Road} (h:zaI rs k=some r):zbf rs r.1 r.2.1 [k]=true:=by
 unfold zbf;rw[h];simp[zbf]
theorem zh5 (rs:List Road) (ws:List Int):zbB rs ws.reverse=zbB rs ws:=by
 unfold zbB;rw[List.map_reverse,List.sum_reverse]
def zi8 (rs:List Road) (k:Int):Int:=match zaI rs k with
 | some r=>r.1
 | none=>0
theorem zju {rs:List Road} {k:Int} {r:Road} (h:zaI rs k=some r):zi8 rs k=r.1:=by unfold zi8;rw[h]
theorem BI.leads {rs:List Road} {s h:Int->Int} {e:Int->Option Int} (B:BI rs s h e):∀{ws:List Int} {x y:Int},Bk rs e x y ws->zbf rs y x ws.reverse=true
 | [],x,y,b=>by
  have:x=y:=b
  subst this;simp[zbf]
 | k::ws,x,y,b=>by
  obtain ⟨e1,r,hr,b'⟩:=b;obtain ⟨r',hr',h2,_⟩:=B.ent x k e1;rw[hr] at hr';cases hr';rw[List.reverse_cons];refine ze1 (B.leads b') ?_;rw[<-h2];exact zgr hr
def stp (rs:List Road) (e:Int->Option Int) (x:Int):Int:=match e x with
 | some k=>zi8 rs k
 | none=>x
def itr (rs:List Road) (e:Int->Option Int):Nat->Int->Int
 | 0,x=>x
 | j+1,x=>stp rs e (itr rs e j x)
theorem zjc {rs:List Road} {e:Int->Option Int} {x k:Int} {r:Road} (h:e x=some k) (hr:zaI rs k=some r):stp rs e x=r.1:=by unfold stp;rw[h];exact zju hr
theorem zgB {rs:List Road} {e:Int->Option Int} {x:Int}:∀(m a:Nat),(∀i,a<=i->i < a+m->∃k r,e (itr rs e i x)=some k/\zaI rs k=some r)->∃ws,Bk rs e (itr rs e a x) (itr rs e (a+m) x) ws/\ws.length=m
 | 0,a,_=>⟨[],rfl,rfl⟩
 | m+1,a,h=>by
  obtain ⟨ws,hb,hl⟩:=zgB m (a+1) (fun i h1 h2=>h i (by omega) (by omega));obtain ⟨k,r,h1,h2⟩:=h a (Nat.le_refl _) (by omega);refine ⟨k::ws,⟨h1,r,h2, ?_⟩,by simp[hl]⟩;have e1:itr rs e (a+1) x=r.1:=zjc h1 h2;rw[<-e1,show a+(m+1)=a+1+m by omega];exact hb
theorem zi1 {rs:List Road} {e:Int->Option Int} {x:Int} {i j:Nat} (h:itr rs e i x=itr rs e j x):∀t,itr rs e (i+t) x=itr rs e (j+t) x
 | 0=>h
 | t+1=>by show stp rs e (itr rs e (i+t) x)=stp rs e (itr rs e (j+t) x);rw[zi1 h t]
theorem zjl {rs:List Road} {e:Int->Option Int} {x:Int} {n:Nat} (hin:∀i,i<=n->0<=itr rs e i x/\itr rs e i x < n) (hen:∀i,i < n->∃k r,e (itr rs e i x)=some k/\zaI rs k=some r) :
  ∃ws,ws≠[]/\Bk rs e (itr rs e n x) (itr rs e n x) ws/\ws.length<=n:=by
 obtain ⟨i,j,h1,h2,h3⟩:=zl3 (fun i=>itr rs e i x) hin;have h4:=zi1 h3 (n - j);rw[show j+(n - j)=n by omega] at h4;obtain ⟨ws,hb,hl⟩:=zgB (rs:=rs) (e:=e) (x:=x) (n - (i+(n - j))) (i+(n - j)) (fun a _ ha=>hen a (by omega));rw[show i+(n - j)+(n - (i+(n - j)))=n by omega,h4] at hb;exact ⟨ws,fun z=>by rw[z] at hl;simp at hl;omega,hb,by omega⟩
theorem zkN {n:Int} {rs:List Road} (ok:zbM n rs) {s h:Int->Int} {e:Int->Option Int} (B:BI rs s h e) {x:Int} (hx:0<=x/\x < n):∀i,0<=itr rs e i x/\itr rs e i x < n
 | 0=>hx
 | i+1=>by
  show 0<=stp rs e (itr rs e i x)/\stp rs e (itr rs e i x) < n
  cases he:e (itr rs e i x) with
  | none=>unfold stp;rw[he];exact zkN ok B hx i
  | some k=>
   obtain ⟨r,hr,_⟩:=B.ent _ k he;rw[zjc he hr];exact (ok.rd r (zc5 hr)).1
def FB (rs:List Road) (e:Int->Option Int) (y:Int):Int->List Int->Prop
 | _,[]=>False
 | x,k::ws=>e x=some k/\∃r,zaI rs k=some r/\((r.1=y/\ws=[])\/(r.1≠y/\FB rs e y r.1 ws))
theorem FB.ex {rs:List Road} {e:Int->Option Int} {y:Int}:∀{ws:List Int} {x:Int},ws≠[]->Bk rs e x y ws->∃ws',FB rs e y x ws'/\ws'.length<=ws.length
 | [],_,h,_=>absurd rfl h
 | k::ws,x,_,b=>by
  obtain ⟨e1,r,hr,b'⟩:=b
  by_cases hy:r.1=y
  .exact ⟨[k],⟨e1,r,hr,.inl ⟨hy,rfl⟩⟩,by simp⟩
  .have hne:ws≠[]:=fun z=>by rw[z] at b';exact hy b'
   obtain ⟨ws',h1,h2⟩:=FB.ex hne b';exact ⟨k::ws',⟨e1,r,hr,.inr ⟨hy,h1⟩⟩,by simp;omega⟩
theorem FB.bk {rs:List Road} {e:Int->Option Int} {y:Int}:∀{ws:List Int} {x:Int},FB rs e y x ws->Bk rs e x y ws
 | [],_,h=>h.elim
 | k::ws,x,h=>by
  obtain ⟨e1,r,hr,z⟩:=h;refine ⟨e1,r,hr, ?_⟩;rcases z with ⟨z1,z2⟩ | ⟨_,z2⟩
  .rw[z2];exact z1
  .exact FB.bk z2
theorem FB.ne {rs:List Road} {e:Int->Option Int} {y x:Int} {ws:List Int} (h:FB rs e y x ws):ws≠[]:=fun z=>by rw[z] at h;exact h
theorem zgI {n:Int} {rs:List Road} (ok:zbM n rs) (s:Int->Int) :
  ((zbW n.toNat rs s).l=none/\Pot rs (zbW n.toNat rs s).h)\/
  ∃v,(zbW n.toNat rs s).l=some v/\(0<=v/\v < n)/\(∀i,i < n.toNat->∃k r,(zbW n.toNat rs s).e (itr rs (zbW n.toNat rs s).e i v)=some k/\zaI rs k=some r)/\
   ∃ws,FB rs (zbW n.toNat rs s).e (itr rs (zbW n.toNat rs s).e n.toNat v) (itr rs (zbW n.toNat rs s).e n.toNat v) ws/\zbB rs ws < 0:=by
 have n0:=ok.n0
 by_cases hn:n.toNat=0
 .left
  rw[hn];refine ⟨rfl,fun r hr=>?_⟩
  have:=(ok.rd r hr).1
  omega
 .have B:=zgc n.toNat rs s;obtain ⟨_,z⟩:=zdY n.toNat ⟨s,fun _=>none,none⟩ _ 0 (BG.first rs s) (by omega);rcases z with z | ⟨v,rd,h1,h2,h3⟩
  .exact .inl z
  .right
   change (zbW n.toNat rs s).l=some v at h1
   change ∀x,1<=rd x->∃j r,(zbW n.toNat rs s).e x=some j/\zaI rs j=some r/\rd x<=rd r.1+1 at h3
   generalize zbW n.toNat rs s=b at *;have hv:0<=v/\v < n:=by
    obtain ⟨j,r,e1,e2,_⟩:=h3 v (by omega);obtain ⟨r',e3,e4,_⟩:=B.ent v j e1;rw[e2] at e3;cases e3;rw[<-e4];exact (ok.rd r (zc5 e2)).2.1
   have hrd:∀i,i<=n.toNat->n.toNat<=rd (itr rs b.e i v)+i:=by
    intro i
    induction i with
    | zero=>intro _;show n.toNat<=rd v+0;omega
    | succ i ih=>
     intro hi;have q:=ih (by omega);obtain ⟨j,r,e1,e2,e3⟩:=h3 _ (show 1<=rd (itr rs b.e i v) by omega)
     show n.toNat<=rd (stp rs b.e (itr rs b.e i v))+(i+1)
     rw[zjc e1 e2];omega
   have hen:∀i,i < n.toNat->∃k r,b.e (itr rs b.e i v)=some k/\zaI rs k=some r:=fun i hi=>by
    obtain ⟨j,r,e1,e2,_⟩:=h3 _ (show 1<=rd (itr rs b.e i v) by have:=hrd i (by omega);omega);exact ⟨j,r,e1,e2⟩
   refine ⟨v,h1,hv,hen, ?_⟩;obtain ⟨ws,hne,hb,_⟩:=zjl (rs:=rs) (e:=b.e) (x:=v) (n:=n.toNat) (fun i _=>by have:=zkN ok B hv i;omega) hen;obtain ⟨ws',hf,_⟩:=FB.ex hne hb;exact ⟨ws',hf,B.neg _ ws' hf.ne hf.bk⟩
theorem zgU {n:Int} {rs:List Road} (ok:zbM n rs) (T:Taut rs) (s:Int->Int):(zbW n.toNat rs s).l=none/\Pot rs (zbW n.toNat rs s).h:=by
 rcases zgI ok s with z | ⟨v,_,_,_,ws,h1,h2⟩
 .exact z
 .exfalso
  have:=T _ _ (zhI ((zgc n.toNat rs s).leads h1.bk))
  rw[zh5] at this;omega
end My
namespace L2
open PySem
theorem zcA {G:GF} {S:SF} {items:List O} {ρ:Rho} (I:Nat->Rho->Prop) (h0:I 0 ρ) (hs:∀i x ρ,items[i]? = some x->I i ρ->∃ρ1 ρ2,G x ρ=some ρ1/\S ρ1=.nx ρ2/\I (i+1) ρ2):∃ρ',forF G S items ρ=.nx ρ'/\I items.length ρ':=by
 induction items generalizing ρ I with
 | nil=>exact ⟨ρ,rfl,h0⟩
 | cons x xs ih=>
  obtain ⟨ρ1,ρ2,e1,e2,h1⟩:=hs 0 x ρ rfl h0;obtain ⟨ρ',e3,h3⟩:=ih (I:=fun i=>I (i+1)) (ρ:=ρ2) h1 fun i y ρ hy hi=>hs (i+1) y ρ (by simpa using hy) hi
  exact ⟨ρ',by rw[forF,e1];dsimp only;rw[e2];exact e3,by simpa using h3⟩
theorem zkW {js:List (Option Nat)} {G:GF} {T:TF} {A:EF} {items:List O} {ρ:Rho} {acc:List O} {q:Bool} (I:Nat->Rho->List O->Prop) (h0:I 0 ρ acc)
  (hs:∀i x ρ acc,items[i]? = some x->I i ρ acc->∃ρ1 ρ2 b q2,G x (zeg js ρ)=some ρ1/\T ρ1=.ok b ρ2 q2/\((b=true/\∃r ρ3 q3 o ρ4,A ρ2=.ok r ρ3 q3/\coe ρ3 r=some (o,ρ4)/\I (i+1) (zcB js ρ4 (clrR js ρ)) (acc++[o]))\/(b=false/\I (i+1) (zcB js ρ2 (clrR js ρ)) acc))) :
  ∃os ρ' q',lcF js G T A items ρ acc q=.ok os ρ' q'/\I items.length ρ' os:=by
 induction items generalizing ρ acc q I with
 | nil=>exact ⟨acc,ρ,q,rfl,h0⟩
 | cons x xs ih=>
  obtain ⟨ρ1,ρ2,b,q2,e1,e2,h⟩:=hs 0 x ρ acc rfl h0;rcases h with ⟨rfl,r,ρ3,q3,o,ρ4,e3,e4,h1⟩ | ⟨rfl,h1⟩
  .obtain ⟨os,ρ',q',e5,h5⟩:=ih (I:=fun i=>I (i+1)) (ρ:=zcB js ρ4 (clrR js ρ)) (acc:=acc++[o]) (q:=q&&q2&&q3) h1 fun i y ρ acc hy hi=>hs (i+1) y ρ acc (by simpa using hy) hi
   exact ⟨os,ρ',q',by rw[lcF,e1];dsimp only;rw[e2];dsimp only;rw[if_pos rfl,e3];dsimp only;rw[e4];exact e5,by simpa using h5⟩
  .obtain ⟨os,ρ',q',e5,h5⟩:=ih (I:=fun i=>I (i+1)) (ρ:=zcB js ρ2 (clrR js ρ)) (acc:=acc) (q:=q&&q2) h1 fun i y ρ acc hy hi=>hs (i+1) y ρ acc (by simpa using hy) hi
   exact ⟨os,ρ',q',by rw[lcF,e1];dsimp only;rw[e2];dsimp only;rw[if_neg Bool.false_ne_true];exact e5,by simpa using h5⟩
theorem zeB {js:List (Option Nat)} {G:GF} {T:TF} {A:EF} {ρ:Rho} (p:O->Bool) (f:O->O):∀{items:List O} {acc:List O} {q:Bool},
  (∀x∈items,∃ρ1 ρ2 q2,G x (zeg js ρ)=some ρ1/\T ρ1=.ok (p x) ρ2 q2/\(p x=true->∃r ρ3 q3 ρ4,A ρ2=.ok r ρ3 q3/\coe ρ3 r=some (f x,ρ4)/\zcB js ρ4 (clrR js ρ)=ρ)/\(p x=false->zcB js ρ2 (clrR js ρ)=ρ))->
  ∃q',lcF js G T A items ρ acc q=.ok (acc++(items.filter p).map f) ρ q'
 | [],acc,q,_=>⟨q,by simp[lcF]⟩
 | x::xs,acc,q,h=>by
  obtain ⟨ρ1,ρ2,q2,e1,e2,ht,hf⟩:=h x List.mem_cons_self;have h':∀y∈xs,_:=fun y hy=>h y (List.mem_cons_of_mem _ hy)
  cases hp:p x with
  | true=>
   obtain ⟨r,ρ3,q3,ρ4,e3,e4,e5⟩:=ht hp;obtain ⟨q',e⟩:=zeB p f (items:=xs) (acc:=acc++[f x]) (q:=q&&q2&&q3) h';refine ⟨q', ?_⟩;rw[lcF,e1];dsimp only;rw[e2,hp];dsimp only;rw[if_pos rfl,e3];dsimp only;rw[e4];dsimp only;rw[e5,e,List.filter_cons,if_pos hp];simp
  | false=>
   obtain ⟨q',e⟩:=zeB p f (items:=xs) (acc:=acc) (q:=q&&q2) h';refine ⟨q', ?_⟩;rw[lcF,e1];dsimp only;rw[e2,hp];dsimp only;rw[if_neg Bool.false_ne_true,hf hp,e,List.filter_cons,if_neg (by rw[hp];exact Bool.false_ne_true)]
@[simp] theorem zoi (G:GF) (S:SF) (ρ:Rho):forF G S [] ρ=.nx ρ:=rfl
theorem zee {j:Int} (h0:-4611686018427387904<=j) (h1:j < 4611686018427387904):okR j=true:=decide_eq_true ⟨by omega,by omega⟩
@[simp] theorem zoj (I:Rho->Re (List O)) (G:GF) (S:SF) (ρ:Rho):sFor I G S ρ=match I ρ with
 | .bad=>.bad
 | .ex c ρ'=>.ex c ρ'
 | .ok items ρ' _=>forF G S items ρ':=rfl
@[simp] theorem zmt (I:Rho->Re (Src×Bool)) (G:GF) (S:SF) (ρ:Rho):zep I G S ρ=match I ρ with
 | .bad=>.bad
 | .ex c ρ'=>.ex c ρ'
 | .ok ((items,_),_) ρ' _=>forF G S items ρ':=rfl
def gR (j:Int) (ρ1:Rho) (q:Bool):Re (List O):=if okR j then .ok (rngO 0 j.toNat) ρ1 q else .bad
theorem zh6 {j:Int} {ρ1:Rho} {q:Bool} (h:okR j=true):gR j ρ1 q=.ok (rngO 0 j.toNat) ρ1 q:=if_pos h
@[simp] theorem zoA (A:EF) (ρ:Rho):itR1 A ρ=(eSc decI A ρ).bind gR:=rfl
@[simp] theorem zpo (A:EF) (ρ:Rho):itE A ρ=(A ρ).bind fun r ρ1 q=>match coe ρ1 r with
 | some (o,ρ2)=>match fz o with
  | some (.list ds)=>.ok (zcQ 0 ds) ρ2 q
  | _=>.bad
 | none=>.bad:=rfl
@[simp] theorem zot (view:Bool) (mk:List PyData->List O) (A:EF) (ρ:Rho):srcM view mk A ρ=(A ρ).bind fun r ρ1 q=>match (if view then zej ρ1 r else none) with
 | some (ds,k,i,oi)=>.ok ((mk ds,some (i,oi)),k) (ρ1.set i .z) q
 | none=>match cov ρ1 r with
  | some (ds,k,ρ2)=>.ok ((mk ds,none),k) ρ2 q
  | none=>.bad:=rfl
@[simp] theorem zpj (ρ:Rho) (r:Rv):cov ρ r=match coe ρ r with
 | some (o,ρ2)=>match fz o with
  | some (.list ds)=>some (ds,true,ρ2)
  | some (.tuple ds)=>some (ds,false,ρ2)
  | _=>none
 | none=>none:=rfl
@[simp] theorem zoc (take:Rho->Rv->Option (O×Rho)) (A C B:EF) (ρ:Rho):sSub take A C B ρ=match A ρ with
 | .bad=>.bad
 | .ex c ρ'=>.ex c ρ'
 | .ok r ρ' _=>match take ρ' r with
  | none=>.bad
  | some (o,ρ1)=>match C ρ1 with
   | .bad=>.bad
   | .ex c ρ'=>.ex c ρ'
   | .ok rc ρ2 _=>match eSc decI B ρ2 with
    | .bad=>.bad
    | .ex c ρ'=>.ex c ρ'
    | .ok k ρ3 q3=>if pok ρ2 q3 rc then match zdz ρ3 rc fun os=>(ixN os.length k).map fun j=>os.set j o with
      | some ρ4=>.nx ρ4
      | none=>.bad
     else .bad:=rfl
@[simp] theorem zhg (ρ:Rho) (i:Nat) (h:List O->Option (List O)):zdz ρ (.at i []) h=match ρ[i]? with
  | some (.l os)=>match h os with
   | some os'=>some (ρ.set i (.l os'))
   | none=>none
  | _=>none:=by
 rw[zdz]
 cases ρ[i]? with
 | none=>rfl
 | some o=>
  cases o with
  | l os=>(simp[put])<;>(cases h os<;>rfl)
  | _=>rfl
@[simp] theorem zfb (ρ:Rho) (i:Nat) (k:Int):gIx ρ (.at i []) k=match ρ[i]? with
  | some .z=>none
  | some o=>match els o with
   | some (_,os)=>match ixN os.length k with
    | some j=>match os[j]? with
     | some c=>zfV (.at i []) j c
     | none=>none
    | none=>none
   | none=>(fIxS o k).map Rv.own
  | none=>none:=by
 unfold gIx;rw[zkz]
 cases ρ[i]? with
 | none=>rfl
 | some o=>cases o<;>rfl
@[simp] theorem zeP (ρ:Rho) (o:O) (k:Int):gIx ρ (.own o) k=match nz (some o) with
  | none=>none
  | some o=>match els o with
   | some (_,os)=>match ixN os.length k with
    | some j=>match os[j]? with
     | some c=>zfV (.own o) j c
     | none=>none
    | none=>none
   | none=>(fIxS o k).map Rv.own:=by
 unfold gIx
 have:vn ρ (.own o)=nz (some o):=by cases o<;>rfl
 rw[this]
 cases o<;>rfl
@[simp] theorem zo6 (r:Rv) (k:Nat) (x:PyData):zfV r k (.d x)=some (.own (.d x)):=rfl
@[simp] theorem zol (C A:EF) (ρ:Rho):eApp C A ρ=(C ρ).bind fun rc ρ1 q1=>if isL ρ1 rc then (A ρ1).bind fun ra ρ2 q2=>if pok ρ1 q2 rc then match coe ρ2 ra with
  | some (o,ρ3)=>match zdz ρ3 rc fun os=>if os.length < sizeLine then some (os++[o]) else none with
   | some ρ4=>.ok (.own (.d .none)) ρ4 false
   | none=>.bad
  | none=>.bad
 else .bad else .bad:=rfl
def lsy:Option O->Bool
 | some (.l _)=>true
 | some (.d (.list _))=>true
 | _=>false
@[simp] theorem zqz (os:List O):lsy (some (.l os))=true:=rfl
@[simp] theorem zqF (os:List PyData):lsy (some (.d (.list os)))=true:=rfl
@[simp] theorem zqB (ρ:Rho) (i:Nat):isL ρ (.at i [])=lsy ρ[i]? := by
 unfold isL;rw[zkz]
 cases ρ[i]? with
 | none=>rfl
 | some o=>
  cases o with
  | d x=>cases x<;>rfl
  | _=>rfl
@[simp] theorem zjz (I:Rho->Re (List O)) (js:List (Option Nat)) (G:GF) (T:TF) (A:EF) (ρ:Rho):eLC I js G T A ρ=match I ρ with
 | .bad=>.bad
 | .ex c ρ'=>.ex c ρ'
 | .ok items ρ1 q1=>if items.length<=sizeLine then match lcF js G T A items ρ1 [] true with
   | .ok os ρ2 q2=>.ok (.own (.l os)) ρ2 (q1&&q2)
   | _=>.bad
  else .bad:=rfl
@[simp] theorem zk6 (I:Rho->Re (Src×Bool)) (js:List (Option Nat)) (G:GF) (T:TF) (A:EF) (ρ:Rho):eLS I js G T A ρ=match I ρ with
 | .bad=>.bad
 | .ex c ρ'=>.ex c ρ'
 | .ok ((items,rs),_) ρ1 q1=>if items.length<=sizeLine then match lcF js G T A items ρ1 [] true with
   | .ok os ρ2 q2=>.ok (.own (.l os)) (zgP rs ρ2) (q1&&q2)
   | _=>.bad
  else .bad:=rfl
@[simp] theorem zmb (ρ:Rho):zgP none ρ=ρ:=rfl
@[simp] theorem zmi (ρ:Rho) (i:Nat) (o:O):zgP (some (i,o)) ρ=ρ.set i o:=rfl
@[simp] theorem zb1 (lo:Int) (n:Nat):(rngO lo n).length=n:=by simp[rngO]
theorem zcy {lo:Int} {n i:Nat} {x:O} (h:(rngO lo n)[i]? = some x):i < n/\x=.d (.int (lo+i)):=by
 unfold rngO at h;rw[List.getElem?_map] at h
 by_cases hi:i < n
 .rw[List.getElem?_range hi] at h;cases h;exact ⟨hi,rfl⟩
 .rw[List.getElem?_eq_none (by simp;omega)] at h;cases h
@[simp] theorem zo4:mkT []=.d (.tuple []):=rfl
@[simp] theorem zp7 (x y:PyData):mkT [.d x,.d y]=.d (.tuple [x,y]):=rfl
@[simp] theorem zp0 (x y z:PyData):mkT [.d x,.d y,.d z]=.d (.tuple [x,y,z]):=rfl
@[simp] theorem zp9 (x:PyData):mkT [.d x]=.d (.tuple [x]):=rfl
end L2
namespace My
open PySem L2
theorem zkq {b c:Int} (hb0:0<=b) (hb:b < 2147483647) (hc0:0<=c) (hc:c < 4611686018427387904):∃n:Int,zbP [.d (.int b),.d (.int c)]=.ok (.d (.int n)) []/\0<=n/\n < 2147483587:=by
 have x0:=Int.emod_nonneg (b * 1103515245+7919 * c * c+c+1) (b:=2147483647) (by decide);have x1:=Int.emod_lt_of_pos (b * 1103515245+7919 * c * c+c+1) (b:=2147483647) (by decide);have m1:fMul (.d (.int b)) (.d (.int 1103515245))=some (.d (.int (b * 1103515245))):=zgE (by decide) (by decide);have m2:fMul (.d (.int 7919)) (.d (.int c))=some (.d (.int (7919 * c))):=zf2 (by decide) (by decide);have m3:fMul (.d (.int (7919 * c))) (.d (.int c))=some (.d (.int (7919 * c * c))):=zgE (by omega) (by omega);have d1:fMod (.d (.int (b * 1103515245+7919 * c * c+c+1))) (.d (.int 2147483647))=some (.d (.int ((b * 1103515245+7919 * c * c+c+1) % 2147483647))):=zd0 (by decide);generalize (b * 1103515245+7919 * c * c+c+1) % 2147483647=x at *;have m4:fMul (.d (.int x)) (.d (.int x))=some (.d (.int (x * x))):=zgE (by omega) (by omega);have d2:fMod (.d (.int (x * x+69621))) (.d (.int 2147483629))=some (.d (.int ((x * x+69621) % 2147483629))):=zd0 (by decide);generalize (x * x+69621) % 2147483629=y at *;have m5:fMul (.d (.int y)) (.d (.int 48271))=some (.d (.int (y * 48271))):=zgE (by decide) (by decide);have d3:fMod (.d (.int (y * 48271))) (.d (.int 2147483587))=some (.d (.int (y * 48271 % 2147483587))):=zd0 (by decide);refine ⟨y * 48271 % 2147483587, ?_,Int.emod_nonneg _ (by decide),Int.emod_lt_of_pos _ (by decide)⟩;unfold zbP zco;exact (zdn rfl (zas (zaC (zaD (zaD (zaD (zaD (zaD rfl rfl rfl rfl rfl m1) (zaD (zaD rfl rfl rfl rfl rfl m2) rfl rfl rfl rfl m3) rfl rfl rfl rfl) rfl rfl rfl rfl rfl) rfl rfl rfl rfl rfl) rfl rfl rfl rfl d1) rfl rfl) (zas (zaC (zaD (zaD (zaD rfl rfl rfl rfl rfl m4) rfl rfl rfl rfl rfl) rfl rfl rfl rfl d2) rfl rfl) (zbX (zaD (zaD rfl rfl rfl rfl rfl m5) rfl rfl rfl rfl d3) rfl))) rfl)
structure PuOk (p:O) (m:Int):Prop where
 ex:∃a b c:Int,p=.l [.d (.int a),.d (.int b),.d (.int c)]/\0<=a/\0<=b/\b < 2147483647/\0<=c/\c<=m
theorem PuOk.sh {p:O} {m:Int} (h:PuOk p m):∃a b c:Int,p=.l [.d (.int a),.d (.int b),.d (.int c)]:=by
 obtain ⟨a,b,c,e,_⟩:=h.ex;exact ⟨a,b,c,e⟩
theorem PuOk.mono {p:O} {m m':Int} (h:PuOk p m) (l:m<=m'):PuOk p m':=by
 obtain ⟨a,b,c,e,h0,h1,h2,h3,h4⟩:=h.ex;exact ⟨a,b,c,e,h0,h1,h2,h3,by omega⟩
theorem zpI (ns:List Int) {k:Int} (h:0<=k):∃n:Int,zcz [.q (ns.map V.int),.d (.int k)]=.ok (.d (.int n)) []:=by
 unfold zcz zdk
 by_cases hk:k < ns.length
 .obtain ⟨j,rfl⟩:∃j:Nat,k=j:=⟨k.toNat,by omega⟩;have hj:j < ns.length:=by omega
  have:atI (ns.map V.int) (j:Int)=some (.int ns[j]):=zlM (by rw[List.getElem?_map,List.getElem?_eq_getElem hj];rfl)
  simp[hj,fIxS,this]
 .simp[hk]
theorem zkh (ns:List Int) {k:Int} (h:0<=k) (h2:k<=63):∃p,zbr [.q (ns.map V.int),.d (.int k)]=.ok p []/\PuOk p 63000:=by
 obtain ⟨n,e⟩:=zpI ns h;unfold zbr zcs;refine ⟨.l [.d (.int (if n - 1000000000000000000 < 0 then 0 else n - 1000000000000000000)),.d (.int (n % 2147483647)),.d (.int (1000 * k))], ?_,⟨_,_,_,rfl, ?_⟩⟩
 .have fp:fPow (.d (.int 10)) (.d (.int 18))=some (.d (.int 1000000000000000000)):=rfl;have fm:fMod (.d (.int n)) (.d (.int 2147483647))=some (.d (.int (n % 2147483647))):=zd0 (by decide);have mu:fMul (.d (.int 1000)) (.d (.int k))=some (.d (.int (1000 * k))):=zf2 (by decide) (by decide);exact (zdn rfl (zas (zaC (zc9 (zad rfl (zad rfl rfl rfl) rfl) rfl e rfl) rfl rfl) (zbX (zaP (zad (zgK (zad (zaD rfl (zaD rfl rfl rfl rfl rfl fp) rfl rfl rfl rfl) (zad rfl rfl rfl) rfl) rfl rfl) (zad (zaD rfl rfl rfl rfl rfl fm) (zad (zaD rfl rfl rfl rfl rfl mu) rfl rfl) rfl) rfl) rfl (Nat.le_of_ble_eq_true rfl) rfl) rfl)) rfl)
 split<;>omega
theorem zl8 {n:Int} (h0:0 < n) (h1:n < 1267650600228229401496703205376):0<=(Builtin.Int.intBits n:Int) / 30/\(Builtin.Int.intBits n:Int) / 30<=3:=by
 have:Builtin.Int.intBits n<=100:=by
  unfold Builtin.Int.intBits;split
  .omega
  .rename_i hz
   have:n.natAbs.log2 < 100:=(Nat.log2_lt (by omega)).mpr (by
    have:n.natAbs < 1267650600228229401496703205376:=by omega
    exact this)
   omega
 omega
theorem ziF {a b c n:Int} {K:Nat} (hK:K<=4) (b0:0<=b) (b1:b < 2147483647) (c0:0<=c) (c1:c<=3000000000000000000):∃(N c':Int) (z:O),forF (gtN 4) zbI (rngO 0 K) [.l [.d (.int a),.d (.int b),.d (.int c)],.d (.int n),.z,.d (.int 0),.z]=.nx [.l [.d (.int a),.d (.int b),.d (.int c')],.d (.int n),.z,.d (.int N),z]/\c<=c'/\c'<=c+4:=by
 obtain ⟨ρ',e,N,c',z,rfl,hc0,hc1⟩:=zcA (G:=gtN 4) (S:=zbI) (items:=rngO 0 K) (ρ:=[.l [.d (.int a),.d (.int b),.d (.int c)],.d (.int n),.z,.d (.int 0),.z])
   (fun i ρ=>∃(N c':Int) (z:O),ρ=[.l [.d (.int a),.d (.int b),.d (.int c')],.d (.int n),.z,.d (.int N),z]/\c<=c'/\c'<=c+i) ⟨0,c,.z,rfl,by omega,by omega⟩ (fun i x ρ hx hx__=>by
    obtain ⟨N,c',z,e,h1,h2⟩:=hx__;obtain ⟨hi,rfl⟩:=zcy hx;subst e;obtain ⟨k,ek,_,_⟩:=zkq (b:=b) (c:=c'+1) b0 b1 (by omega) (by omega);refine ⟨_,[.l [.d (.int a),.d (.int b),.d (.int (c'+1))],.d (.int n),.z,.d (.int (N * 2147483587+k)),.d (.int (0+i))],by exact rfl, ?_,_,_,_,rfl,by omega,by omega⟩;unfold zbI;simp (disch:=omega) [ixN,zgE,ek])
 rw[zb1] at hc1;exact ⟨N,c',z,e,hc0,by omega⟩
theorem zbb {p:O} {m n:Int} (hp:PuOk p m) (hm:m<=2305843009213693952) (h0:1<=n) (h1:n < 1267650600228229401496703205376):∃(r:Int) (p':O),zag [p,.d (.int n)]=.ok (.d (.int r)) [p']/\0<=r/\r < n/\PuOk p' (m+4):=by
 obtain ⟨a,b,c,rfl,a0,b0,b1,c0,c1⟩:=hp.ex;unfold zag zcG
 by_cases ha:0 < a
 .have q0:=Int.emod_nonneg a (by omega:n≠0);have q1:=Int.emod_lt_of_pos a (by omega:0 < n);refine ⟨a % n,.l [.d (.int (a / n)),.d (.int b),.d (.int c)], ?_,q0,q1,⟨_,_,_,rfl,Int.ediv_nonneg a0 (by omega),b0,b1,c0,by omega⟩⟩;simp (disch:=first | assumption | omega) [ixN,ha,zd0,zh7]
 .have hb:=zl8 (by omega:0 < n) h1;have hB:zij (.d (.int n))=some (.d (.int (Builtin.Int.intBits n))):=rfl;generalize (Builtin.Int.intBits n:Int)=B at hb hB;have hr:okR (1+B / 30)=true:=zee (by omega) (by omega);obtain ⟨N,c',z,e,hc0,hc1⟩:=ziF (a:=a) (b:=b) (c:=c) (n:=n) (K:=(1+B / 30).toNat) (by omega) b0 b1 c0 (by omega);refine ⟨N % n,.l [.d (.int a),.d (.int b),.d (.int c')], ?_,Int.emod_nonneg _ (by omega),Int.emod_lt_of_pos _ (by omega),⟨_,_,_,rfl,a0,b0,b1,by omega,by omega⟩⟩;clear h1 hm;simp -implicitDefEqProofs (disch:=first | assumption | omega) [ixN,ha,zd0,zjq,-zk7,hB,zh6 hr,e]
theorem zhG (a b c d lo hi:Int) {g:Int} (h0:0<=g) (h1:g < 4) (ha:lo<=a/\a<=hi) (hb:lo<=b/\b<=hi) (hc:lo<=c/\c<=hi) (hd:lo<=d/\d<=hi):∃f:Int,([.d (.int a),.d (.int b),.d (.int c),.d (.int d)]:List O)[g.toNat]? = some (.d (.int f))/\lo<=f/\f<=hi:=by
 have hg:g=0\/g=1\/g=2\/g=3:=by omega
 rcases hg with rfl | rfl | rfl | rfl
 .exact ⟨a,rfl,ha⟩
 .exact ⟨b,rfl,hb⟩
 .exact ⟨c,rfl,hc⟩
 .exact ⟨d,rfl,hd⟩
theorem zje {p:O} {m x:Int} (hp:PuOk p m) (hm:m<=1152921504606846976) (h0:1<=x) (h1:x<=4611686018427387904):∃(r:Int) (p':O),zbi [p,.d (.int x)]=.ok (.d (.int r)) [p']/\-(max x 30)<=r/\r<=max x 30/\PuOk p' (m+8):=by
 obtain ⟨M,hM,hx,h30,hMx⟩:∃M:Int,max x 30=M/\x<=M/\30<=M/\M<=4611686018427387904:=⟨max x 30,rfl,by omega,by omega,by omega⟩;rw[hM];clear hM;obtain ⟨g,p1,e1,g0,g1,hp1⟩:=zbb hp (by omega) (n:=4) (by decide) (by decide);have key:∀f:Int,1<=f->f<=M->∃(r:Int) (p':O),zag [p1,.d (.int (2 * f+1))]=.ok (.d (.int r)) [p']/\0<=r/\r < 2 * f+1/\PuOk p' (m+8):=fun f f0 f1=>by
  obtain ⟨r,p2,e2,r0,r1,hp2⟩:=zbb hp1 (by omega) (n:=2 * f+1) (by omega) (by omega);exact ⟨r,p2,e2,r0,r1,hp2.mono (by omega)⟩
 obtain ⟨a,b,c,rfl⟩:=hp.sh;obtain ⟨a1,b1,c1,rfl⟩:=hp1.sh;obtain ⟨f,hf,hv0,hv1⟩:=zhG 1 4 30 x 1 M g0 g1 ⟨by decide,by omega⟩ ⟨by decide,by omega⟩ ⟨by decide,h30⟩ ⟨h0,hx⟩;obtain ⟨r,p2,e2,r0,r1,hp2⟩:=key f hv0 hv1;obtain ⟨a2,b2,c2,rfl⟩:=hp2.sh;refine ⟨r - f,.l [.d (.int a2),.d (.int b2),.d (.int c2)], ?_,by omega,by omega,hp2⟩;have gg:∀ρ:Rho,gIx ρ (.own (.l [.d (.int 1),.d (.int 4),.d (.int 30),.d (.int x)])) g=some (.own (.d (.int f))):=fun ρ=>zhT hf g0 g1
 have m2:fMul (.d (.int 2)) (.d (.int f))=some (.d (.int (2 * f))):=zf2 (by omega) (by omega);unfold zbi zb5;exact (zdn rfl (zas (zaC (zck (zaP (zad rfl (zad rfl (zad rfl (zad rfl rfl rfl) rfl) rfl) rfl) rfl (Nat.le_of_ble_eq_true rfl) rfl) (za1 (zaO (zad rfl (zad rfl rfl rfl) rfl) rfl e1 rfl rfl) rfl rfl) rfl (gg _)) rfl rfl) (zbX (zaD (zaO (zad rfl (zad (zaD (zaD rfl rfl rfl rfl rfl m2) rfl rfl rfl rfl rfl) rfl rfl) rfl) rfl e2 rfl rfl) rfl rfl rfl rfl rfl) rfl)) rfl)
def zaJ (rs:List Road):O:=.l (rs.map fun r=>.d (zav r))
def zaA (hs:List Int):O:=.l (hs.map fun h=>.d (.int h))
@[simp] theorem zov (ρ:Rho):clrR [] ρ=ρ:=rfl
@[simp] theorem zn5 (js:List (Option Nat)) (ρ:Rho):clrR (none::js) ρ=clrR js ρ:=rfl
@[simp] theorem znU (i:Nat) (js:List (Option Nat)) (ρ:Rho):clrR (some i::js) ρ=clrR js (ρ.set i .z):=rfl
@[simp] theorem znW (ρ:Rho):zeg [] ρ=[]:=rfl
@[simp] theorem zmf (js:List (Option Nat)) (ρ:Rho):zeg (none::js) ρ=.z::zeg js ρ:=rfl
@[simp] theorem zme (i:Nat) (js:List (Option Nat)) (ρ:Rho):zeg (some i::js) ρ=(ρ[i]?).getD .z::zeg js ρ:=rfl
@[simp] theorem zno (r ρ:Rho):zcB [] r ρ=ρ:=by cases r<;>rfl
@[simp] theorem zmh (js:List (Option Nat)) (o:O) (r ρ:Rho):zcB (none::js) (o::r) ρ=zcB js r ρ:=rfl
@[simp] theorem zmc (i:Nat) (js:List (Option Nat)) (o:O) (r ρ:Rho):zcB (some i::js) (o::r) ρ=zcB js r (ρ.set i o):=rfl
theorem zny {p:O} {m:Int} (n:Nat) (ws:List O) (hp:PuOk p m) (hm:m<=1125899906842624) (hn:n<=20):∃(hs:List Int) (p':O) (q:Bool),lcF [none,some 0] (gtN 0) (gRet true) zbp (rngO 0 n) (p::ws) [] true=.ok (hs.map fun h=>.d (.int h)) (p'::ws) q/\hs.length=n/\(∀h∈hs,-100000000<=h/\h<=100000000)/\PuOk p' (m+160):=by
 have:=zkW (js:=[none,some 0]) (G:=gtN 0) (T:=gRet true) (A:=zbp) (items:=rngO 0 n) (ρ:=p::ws) (acc:=[]) (q:=true)
  (fun i ρ acc=>∃(hs:List Int) (p':O),ρ=p'::ws/\acc=hs.map (fun h=>.d (.int h))/\hs.length=i/\(∀h∈hs,-100000000<=h/\h<=100000000)/\PuOk p' (m+8 * i)) ⟨[],p,rfl,rfl,rfl,by simp,by simpa using hp⟩
  (fun i x ρ acc hx hx__=>by
   obtain ⟨hs,p',e,ea,hl,hb,hp'⟩:=hx__;obtain ⟨hi,rfl⟩:=zcy hx;subst e ea;obtain ⟨r,p2,e2,r0,r1,hp2⟩:=zje hp' (by omega) (x:=100000000) (by decide) (by decide);obtain ⟨_,_,_,rfl⟩:=hp'.sh;obtain ⟨a2,b2,c2,rfl⟩:=hp2.sh;refine ⟨_,_,true,true,by simp;rfl,by simp;rfl,.inl ⟨rfl,.own (.d (.int r)),[.d (.int i),.l [.d (.int a2),.d (.int b2),.d (.int c2)]],false,.d (.int r),_, ?_,by simp;rfl,hs++[r],_, ?_,by simp,by simp[hl], ?_,hp2.mono (by omega)⟩⟩
   .unfold zbp;exact (zaO (zad rfl (zad (zaD rfl rfl rfl rfl rfl rfl) rfl rfl) rfl) rfl e2 rfl rfl)
   .exact rfl
   .intro h hh;rcases List.mem_append.mp hh with hh | hh
    .exact hb h hh
    .obtain rfl:=List.mem_singleton.mp hh
     omega)
 obtain ⟨os,ρ',q',e,hs,p',rfl,rfl,hl,hb,hp'⟩:=this;rw[zb1] at hl hp';exact ⟨hs,p',q',e,hl,hb,hp'.mono (by omega)⟩
theorem zj3 {p:O} {m c:Int} {w1 w2:O} (hp:PuOk p m) (hm:m<=1125899906842624) (c0:0<=c) (c1:c<=20):∃(hs:List Int) (p':O) (q:Bool),eLC (itR1 (zab 3)) [none,some 0] (gtN 0) (gRet true) zbp [p,w1,w2,.d (.int c),.z,.z,.z,.z,.z,.z]=.ok (.own (zaA hs)) [p',w1,w2,.d (.int c),.z,.z,.z,.z,.z,.z] q/\hs.length=c.toNat/\(∀h∈hs,-100000000<=h/\h<=100000000)/\PuOk p' (m+160):=by
 have hr:okR c=true:=zee (by omega) (by omega);obtain ⟨hs,p',q',e,hl,hb,hp'⟩:=zny c.toNat [w1,w2,.d (.int c),.z,.z,.z,.z,.z,.z] hp hm (by omega);refine ⟨hs,p',q', ?_,hl,hb,hp'⟩;obtain ⟨_,_,_,rfl⟩:=hp.sh;simp (disch:=omega) [zh6 hr,e,zbx,zaA]
theorem zdx {A B:SF} {ρ ρ':Rho} (h:A ρ=.nx ρ'):sSeq A B ρ=B ρ':=by simp[h]
theorem zix {p:O} {m:Int} {w1 w2 w3 w4 w5 w6 w7 w8 w9:O} (hp:PuOk p m) (hm:m<=1125899906842624):∃(s:Int) (p':O),(sAsg coe (eIx (zaL coes .l (zae (eC (.int 0)) (zae (eC (.int 0)) (zae (zaq [true,false] zag (zae (zab 0) (zae (eC (.int 4)) aNil))) (zae (zaq [true,false] zag (zae (zab 0) (zae (e2 (eC (.int 10)) (eC (.int 8)) fPow) aNil))) aNil))))) (zaq [true,false] zag (zae (zab 0) (zae (eC (.int 4)) aNil)))) (gtN 9)) [p,w1,w2,w3,w4,w5,w6,w7,w8,w9]=.nx [p',w1,w2,w3,w4,w5,w6,w7,w8,.d (.int s)]/\0<=s/\s<=100000000/\PuOk p' (m+12):=by
 refine hide fun P key=>?_
 obtain ⟨a1,b1,c1,rfl⟩:=hp.sh;obtain ⟨d1,p1,e1,l1,u1,hp1⟩:=zbb hp (by omega) (n:=4) (by decide) (by decide);obtain ⟨a1,b1,c1,rfl⟩:=hp1.sh;obtain ⟨d2,p2,e2,l2,u2,hp2⟩:=zbb hp1 (by omega) (n:=100000000) (by decide) (by decide);obtain ⟨a1,b1,c1,rfl⟩:=hp2.sh;obtain ⟨d3,p3,e3,l3,u3,hp3⟩:=zbb hp2 (by omega) (n:=4) (by decide) (by decide);obtain ⟨a1,b1,c1,rfl⟩:=hp3.sh;obtain ⟨s,hs,hv0,hv1⟩:=zhG 0 0 d1 d2 0 100000000 l3 u3 (by omega) (by omega) (by omega) (by omega);have gg:∀ρ:Rho,gIx ρ (.own (.l [.d (.int 0),.d (.int 0),.d (.int d1),.d (.int d2)])) d3=some (.own (.d (.int s))):=fun ρ=>zhT hs l3 u3
 have fp:fPow (.d (.int 10)) (.d (.int 8))=some (.d (.int 100000000)):=rfl;exact key ⟨s,_,by exact (zaC (zck (zaP (zad rfl (zad rfl (zad (zaO (zad rfl (zad rfl rfl rfl) rfl) rfl e1 rfl rfl) (zad (zaO (zad rfl (zad (zaD rfl rfl rfl rfl rfl fp) rfl rfl) rfl) rfl e2 rfl rfl) rfl rfl) rfl) rfl) rfl) rfl (Nat.le_of_ble_eq_true rfl) rfl) (za1 (zaO (zad rfl (zad rfl rfl rfl) rfl) rfl e3 rfl rfl) rfl rfl) rfl (gg _)) rfl rfl),hv0,hv1,hp3.mono (by omega)⟩
theorem zk8 {p w1 w2 w3 w6:O} {hs:List Int} {rs:List Road} {i j s:Int} (hi:0<=i/\i < hs.length) (hj:0<=j/\j < hs.length) (hl:rs.length<=1000):(zcW (eApp (zab 5) (zaL coes mkT (zae (zab 7) (zae (zab 8) (zae (e2 (e2 (eIx (zab 4) (zab 8)) (eIx (zab 4) (zab 7)) fSub) (zab 9) fAdd) aNil)))))) [p,w1,w2,w3,zaA hs,zaJ rs,w6,.d (.int i),.d (.int j),.d (.int s)]=.nx [p,w1,w2,w3,zaA hs,zaJ (rs++[(i,j,hs.getD j.toNat 0 - hs.getD i.toNat 0+s)]),w6,.d (.int i),.d (.int j),.d (.int s)]:=by
 have get:∀k:Int,0<=k/\k < hs.length->hs[k.toNat]? = some (hs.getD k.toNat 0):=fun k hk=>by
  rw[List.getD_eq_getElem?_getD,List.getElem?_eq_getElem (by omega)];rfl
 have ei:=get i hi;have ej:=get j hj;generalize hs.getD i.toNat 0=x at *;generalize hs.getD j.toNat 0=y at *;have gi:∀ρ:Rho,ρ[4]? = some (zaA hs)->gIx ρ (.at 4 []) i=some (.own (.d (.int x))):=fun ρ z=>zfG (by rw[List.getElem?_map,ei];rfl) hi.1 (by simpa using hi.2) z
 have gj:∀ρ:Rho,ρ[4]? = some (zaA hs)->gIx ρ (.at 4 []) j=some (.own (.d (.int y))):=fun ρ z=>zfG (by rw[List.getElem?_map,ej];rfl) hj.1 (by simpa using hj.2) z
 have hl':(rs.map fun r=>O.d (zav r)).length < sizeLine:=zeq (by simp;omega);have hm':zaJ (rs++[(i,j,y - x+s)])=.l (rs.map (fun r=>.d (zav r))++[.d (.tuple [.int i,.int j,.int (y - x+s)])]):=by
  unfold zaJ zav;simp
 rw[hm'];exact (zd2 (zgi rfl rfl (zaP (zad rfl (zad rfl (zad (zaD (zaD (zck rfl (za1 rfl rfl rfl) rfl (gj _ rfl)) (zck rfl (za1 rfl rfl rfl) rfl (gi _ rfl)) rfl rfl rfl rfl) rfl rfl rfl rfl rfl) rfl rfl) rfl) rfl) rfl (Nat.le_of_ble_eq_true rfl) rfl) rfl rfl (zds rfl hl')))
@[simp] theorem znf (a b:Int):fEq false (.d (.int a)) (.d (.int b))=some (.d (.bool (a==b))):=by
 exact rfl
@[simp] theorem zpY (a b:Int):fEq true (.d (.int a)) (.d (.int b))=some (.d (.bool (!(a==b)))):=by
 exact rfl
theorem zkd {p:O} {m:Int} {w1 w2 w3 w4 w6 w7 w8 w9:O} {rs:List Road} (hp:PuOk p m) (hm:m<=1125899906842624) (hl:rs.length<=1000) (hn:0 < rs.length):∃(rs':List Road) (p':O),(sIf (tst (e2 (zaq [true,false] zag (zae (zab 0) (zae (eC (.int 8)) aNil))) (eC (.int 0)) (fEq false))) (zcW (eApp (zab 5) (eIx (zab 5) (zaq [true,false] zag (zae (zab 0) (zae (eB (zae (zab 5) aNil) (f1 fLen)) aNil)))))) sNil) [p,w1,w2,w3,w4,zaJ rs,w6,w7,w8,w9]=.nx [p',w1,w2,w3,w4,zaJ rs',w6,w7,w8,w9]/\rs'.length<=rs.length+1/\(∀r∈rs',r∈rs)/\PuOk p' (m+8):=by
 obtain ⟨a1,b1,c1,rfl⟩:=hp.sh;obtain ⟨d1,p1,e1,l1,u1,hp1⟩:=zbb hp (by omega) (n:=8) (by decide) (by decide);obtain ⟨a1,b1,c1,rfl⟩:=hp1.sh
 by_cases h:d1=0
 .subst h;obtain ⟨d2,p2,e2,l2,u2,hp2⟩:=zbb hp1 (by omega) (n:=rs.length) (by omega) (by omega);obtain ⟨a1,b1,c1,rfl⟩:=hp2.sh;have er:rs[d2.toNat]? = some (rs.getD d2.toNat (0,0,0)):=by
   rw[List.getD_eq_getElem?_getD,List.getElem?_eq_getElem (by omega)];rfl
  have hm:=List.mem_of_getElem? er;generalize rs.getD d2.toNat (0,0,0)=r at *;refine ⟨rs++[r],_, ?_,by simp, ?_,hp2.mono (by omega)⟩
  .have gi:∀ρ:Rho,ρ[5]? = some (zaJ rs)->gIx ρ (.at 5 []) d2=some (.own (.d (zav r))):=fun ρ z=>zfG (by rw[List.getElem?_map,er];rfl) l2 (by simpa using u2) z
   have hl':(rs.map fun r=>O.d (zav r)).length < sizeLine:=zeq (by simp;omega);have ln:f1 fLen [zaJ rs]=some (.d (.int (rs.length:Int))):=by simp[f1,zaJ,els]
   have z0:fEq false (.d (.int 0)) (.d (.int 0))=some (.d (.bool true)):=znf 0 0;have hm':zaJ (rs++[r])=.l (rs.map (fun r=>.d (zav r))++[.d (zav r)]):=by
    unfold zaJ;simp
   rw[hm'];exact (if_t (za0 (zaD (zaO (zad rfl (zad rfl rfl rfl) rfl) rfl e1 rfl rfl) rfl rfl rfl rfl z0) rfl) (zd2 (zgi rfl rfl (zck rfl (za1 (zaO (zad rfl (zad (zgK (zad rfl rfl rfl) rfl ln) rfl rfl) rfl) rfl e2 rfl rfl) rfl rfl) rfl (gi _ rfl)) rfl rfl (zds rfl hl'))))
  .intro x hx;rcases List.mem_append.mp hx with hx | hx
   .exact hx
   .obtain rfl:=List.mem_singleton.mp hx;exact hm
 .refine ⟨rs,_, ?_,by omega,fun r hr=>hr,hp1.mono (by omega)⟩;have z0:fEq false (.d (.int d1)) (.d (.int 0))=some (.d (.bool false)):=by simp[h]
  exact (if_f (za0 (zaD (zaO (zad rfl (zad rfl rfl rfl) rfl) rfl e1 rfl rfl) rfl rfl rfl rfl z0) rfl) rfl)
def netO (n:Int) (rs:List Road):O:=.t [.d (.int n),zaJ rs]
def hgt (hs:List Int) (v:Int):Int:=hs.getD v.toNat 0
structure RdOk (n:Int) (hs:List Int) (rs:List Road):Prop where
 rd:∀r∈rs,zni n 300000000 r
 pot:Pot rs (hgt hs)
 slk:∀r∈rs,r.2.2<=hgt hs r.2.1 - hgt hs r.1+100000000
def Slk (rs:List Road):Prop:=∃h:Int->Int,(∀v,-100000000<=h v/\h v<=100000000)/\Pot rs h/\∀r∈rs,r.2.2<=h r.2.1 - h r.1+100000000
theorem zl2 {hs:List Int} (hb:∀h∈hs,-100000000<=h/\h<=100000000) (v:Int):-100000000<=hgt hs v/\hgt hs v<=100000000:=by
 unfold hgt;rw[List.getD_eq_getElem?_getD]
 cases e:hs[v.toNat]? with
 | none=>simp
 | some x=>exact hb x (List.mem_of_getElem? e)
theorem RdOk.add {n:Int} {hs:List Int} {rs rs':List Road} {i k s:Int} (hr:RdOk n hs rs) (hb:∀h∈hs,-100000000<=h/\h<=100000000) (hi:0<=i/\i < n) (hk:0<=k/\k < n) (h0:0<=s) (h1:s<=100000000) (m:∀r∈rs',r∈rs++[(i,k,hgt hs k - hgt hs i+s)]):RdOk n hs rs':=by
 have bi:=zl2 hb i;have bk:=zl2 hb k;refine ⟨fun r h=>?_,fun r h=>?_,fun r h=>?_⟩
 .rcases List.mem_append.mp (m r h) with h | h
  .exact hr.rd r h
  .obtain rfl:=List.mem_singleton.mp h;exact ⟨hi,hk,by dsimp only;omega,by dsimp only;omega⟩
 .rcases List.mem_append.mp (m r h) with h | h
  .exact hr.pot r h
  .obtain rfl:=List.mem_singleton.mp h;dsimp only;omega
 .rcases List.mem_append.mp (m r h) with h | h
  .exact hr.slk r h
  .obtain rfl:=List.mem_singleton.mp h;dsimp only;omega
theorem zkp {p:O} {m c:Int} {w1 w2 w6 w7 w8 w9:O} {hs:List Int} {rs:List Road} (hp:PuOk p m) (hm:m<=1125899906842024) (c0:0 < c) (c1:c<=20) (hl:hs.length=c.toNat) (hb:∀h∈hs,-100000000<=h/\h<=100000000) (hr:RdOk c hs rs) (hn:rs.length<=900) :
  ∃(rs':List Road) (p' w7' w8' w9':O),zbO [p,w1,w2,.d (.int c),zaA hs,zaJ rs,w6,w7,w8,w9]=.nx [p',w1,w2,.d (.int c),zaA hs,zaJ rs',w6,w7',w8',w9']/\rs'.length<=rs.length+2/\RdOk c hs rs'/\PuOk p' (m+28):=by
 refine hide fun P key=>?_
 obtain ⟨x0,y0,z0,rfl⟩:=hp.sh;obtain ⟨i,p1,e1,l1,u1,hp1⟩:=zbb hp (by omega) (n:=c) (by omega) (by omega);obtain ⟨x1,y1,z1,rfl⟩:=hp1.sh;obtain ⟨j,p2,e2,l2,u2,hp2⟩:=zbb hp1 (by omega) (n:=c) (by omega) (by omega);obtain ⟨s,p3,e3,l3,u3,hp3⟩:=zix (w1:=w1) (w2:=w2) (w3:=.d (.int c)) (w4:=zaA hs) (w5:=zaJ rs) (w6:=w6) (w7:=.d (.int i)) (w8:=.d (.int j)) (w9:=w9) hp2 (by omega);have e4:=zk8 (p:=p3) (w1:=w1) (w2:=w2) (w3:=.d (.int c)) (w6:=w6) (hs:=hs) (rs:=rs) (i:=i) (j:=j) (s:=s) ⟨l1,by omega⟩ ⟨l2,by omega⟩ (by omega);obtain ⟨rs',p5,e5,l5,m5,hp5⟩:=zkd (rs:=rs++[(i,j,hs.getD j.toNat 0 - hs.getD i.toNat 0+s)]) (w1:=w1) (w2:=w2) (w3:=.d (.int c)) (w4:=zaA hs) (w6:=w6) (w7:=.d (.int i)) (w8:=.d (.int j)) (w9:=.d (.int s)) hp3 (by omega) (by simp;omega) (by simp);obtain ⟨x2,y2,z2,rfl⟩:=hp2.sh;refine key ⟨rs',p5,.d (.int i),.d (.int j),.d (.int s), ?_,by simp at l5;omega,hr.add hb ⟨l1,u1⟩ ⟨l2,u2⟩ l3 u3 m5,hp5.mono (by omega)⟩;unfold zbO;rw[zdx (ρ':=[.l [.d (.int x1),.d (.int y1),.d (.int z1)],w1,w2,.d (.int c),zaA hs,zaJ rs,w6,.d (.int i),w8,w9]) (zaC (zaO (zad rfl (zad rfl rfl rfl) rfl) rfl e1 rfl rfl) rfl rfl)];rw[zdx (ρ':=[.l [.d (.int x2),.d (.int y2),.d (.int z2)],w1,w2,.d (.int c),zaA hs,zaJ rs,w6,.d (.int i),.d (.int j),w9]) (zaC (zaO (zad rfl (zad rfl rfl rfl) rfl) rfl e2 rfl rfl) rfl rfl)];rw[zdx e3,zdx e4];exact e5
theorem zlj {p:O} {m:Int} {most many:Int} (hp:PuOk p m) (hm:m<=562949953421312) (a0:0<=most) (a1:most<=19) (b0:0<=many) (b1:many<=30) :
  ∃(n:Int) (rs:List Road) (p':O),zcg [p,.d (.int most),.d (.int many)]=.ok (netO n rs) [p']/\NetB n 300000000 most.toNat (2 * many.toNat) rs/\Slk rs/\PuOk p' (m+2000):=by
 refine hide fun P key=>?_
 obtain ⟨x0,y0,z0,rfl⟩:=hp.sh;obtain ⟨c,p1,e1,l1,u1,hp1⟩:=zbb hp (by omega) (n:=most+1) (by omega) (by omega);obtain ⟨hs,p2,q,e2,hl,hb,hp2⟩:=zj3 (w1:=.d (.int most)) (w2:=.d (.int many)) (c:=c) hp1 (by omega) (by omega) (by omega);obtain ⟨k,p3,e3,l3,u3,hp3⟩:=zbb hp2 (by omega) (n:=many+1) (by omega) (by omega);obtain ⟨x1,y1,z1,rfl⟩:=hp1.sh;obtain ⟨x2,y2,z2,rfl⟩:=hp2.sh;obtain ⟨x3,y3,z3,rfl⟩:=hp3.sh;obtain ⟨K,hK,hmul⟩:∃K:Int,(0<=K/\K<=many/\(0 < K->0 < c))/\fMul (.d (.int k)) (.d (.int (if 0 < c then 1 else 0)))=some (.d (.int K)):=by
  by_cases z:0 < c
  .rw[if_pos z];exact ⟨k * 1,by omega,zf2 (by omega) (by omega)⟩
  .rw[if_neg z];exact ⟨k * 0,by omega,zf2 (by omega) (by omega)⟩
 obtain ⟨hK0,hK1,hK2⟩:=hK;obtain ⟨ρ',e4,rs,p4,v6,v7,v8,v9,rfl,hn,hr,hp4⟩:=zcA (G:=gtN 6) (S:=zbO) (items:=rngO 0 K.toNat) (ρ:=[.l [.d (.int x3),.d (.int y3),.d (.int z3)],.d (.int most),.d (.int many),.d (.int c),zaA hs,.l [],.z,.z,.z,.z])
  (fun i ρ=>∃(rs:List Road) (p4 v6 v7 v8 v9:O),ρ=[p4,.d (.int most),.d (.int many),.d (.int c),zaA hs,zaJ rs,v6,v7,v8,v9]/\rs.length<=2 * i/\RdOk c hs rs/\PuOk p4 (m+168+28 * i))
  ⟨[],_,_,_,_,_,rfl,by simp,⟨by simp,by simp[Pot],by simp⟩,hp3.mono (by omega)⟩
  (fun i x ρ hx hx__=>by
   obtain ⟨rs,p4,v6,v7,v8,v9,e,hn,hr,hp4⟩:=hx__;obtain ⟨hi,rfl⟩:=zcy hx;subst e;obtain ⟨rs',p',v7',v8',v9',e5,hn',hr',hp'⟩:=zkp (w1:=.d (.int most)) (w2:=.d (.int many)) (w6:=.d (.int (0+i))) (w7:=v7) (w8:=v8) (w9:=v9) hp4 (by omega) (c:=c) (by omega) (by omega) hl hb hr (by omega);exact ⟨[p4,.d (.int most),.d (.int many),.d (.int c),zaA hs,zaJ rs,.d (.int (0+i)),v7,v8,v9],_,by simp,e5,rs',p',_,v7',v8',v9',rfl,by omega,hr',hp'.mono (by omega)⟩)
 rw[zb1] at hn hp4;refine key ⟨c,rs,p4, ?_,⟨l1,by omega,by omega,hr.rd⟩,⟨hgt hs,zl2 hb,hr.pot,hr.slk⟩,hp4.mono (by omega)⟩;unfold zcg zcX;have hk:okR K=true:=zee (by omega) (by omega);obtain ⟨x4,y4,z4,rfl⟩:=hp4.sh;unfold netO zaJ zaA at *;simp (disch:=omega) [e1,e2,e3,-zjz,hmul,zh6 hk,e4,zbx];rfl
theorem Slk.taut {rs:List Road}:Slk rs->Taut rs:=fun ⟨_,_,P,_⟩=>P.taut
structure Net (n:Int) (rs:List Road):Prop where
 ok:zbM n rs
 pos:0 < n
 taut:Taut rs
theorem zkc {p:O} {m:Int} {most many:Int} (hp:PuOk p m) (hm:m<=562949953421312) (a0:0<=most) (a1:most<=19) (b0:0<=many) (b1:many<=30) :
  ∃(n:Int) (rs:List Road) (p':O),zbj [p,.d (.int most),.d (.int many)]=.ok (netO n rs) [p']/\NetB n 300000000 (max most 1).toNat (2 * many.toNat+1) rs/\0 < n/\Slk rs/\PuOk p' (m+2000):=by
 obtain ⟨n,rs,p1,e1,nb,ta,hp1⟩:=zlj hp hm a0 a1 b0 b1;obtain ⟨x0,y0,z0,rfl⟩:=hp.sh;obtain ⟨x1,y1,z1,rfl⟩:=hp1.sh;have hn0:=nb.n0;have hn1:=nb.n1;unfold zbj zcH
 by_cases h:n=0
 .subst h;refine ⟨1,[(0,0,3)],_, ?_,⟨by omega,by omega,by simp, ?_⟩,by omega,⟨fun _=>0,fun _=>⟨by simp,by simp⟩, ?_, ?_⟩,hp1⟩
  .unfold netO zaJ at *;exact (zdn rfl (zas (zaC (zaO (zad rfl (zad rfl (zad rfl rfl rfl) rfl) rfl) rfl e1 rfl rfl) rfl rfl) (zas (if_t (za0 (zaD (zck rfl (za1 rfl rfl rfl) rfl rfl) rfl rfl rfl rfl rfl) rfl) (zaC (zaP (zad rfl (zad (zaP (zad (zaP (zad rfl (zad rfl (zad rfl rfl rfl) rfl) rfl) rfl (Nat.le_of_ble_eq_true rfl) rfl) rfl rfl) rfl (Nat.le_of_ble_eq_true rfl) rfl) rfl rfl) rfl) rfl (Nat.le_of_ble_eq_true rfl) rfl) rfl rfl)) (zbX rfl rfl))) rfl)
  .intro r hr;obtain rfl:=List.mem_singleton.mp hr;exact ⟨by decide,by decide,by decide⟩
  .intro r hr;obtain rfl:=List.mem_singleton.mp hr
   decide
  .intro r hr;obtain rfl:=List.mem_singleton.mp hr
   decide
 .refine ⟨n,rs,_, ?_,⟨nb.n0,by omega,by have:=nb.len;omega,nb.rd⟩,by omega,ta,hp1⟩;unfold netO zaJ at *;simp (disch:=omega) [e1,zbx,ixN,h]
theorem zl7 {p:O} {m:Int} {most many:Int} (hp:PuOk p m) (hm:m<=562949953421312) (a0:0<=most) (a1:most<=19) (b0:0<=many) (b1:many<=29) :
  ∃(n:Int) (rs:List Road) (p':O),zbj [p,.d (.int most),.d (.int many)]=.ok (netO n rs) [p']/\Net n rs/\n<=max most 1/\PuOk p' (m+2000):=by
 obtain ⟨n,rs,p',h1,h2,h3,h4,h5⟩:=zkc hp hm a0 a1 b0 (by omega)
 have:=h2.n1
 exact ⟨n,rs,p',h1,⟨h2.ok (by omega) (by omega) (by omega),h3,h4.taut⟩,by omega,h5⟩
@[simp] theorem zpw (ds:List PyData):zeF (.d (.list ds))=some (.l (ds.map O.d)):=by
 unfold zeF;rw[show els (.d (.list ds))=some (_,ds.map O.d) from rfl];dsimp only;rw[zfJ]
@[simp] theorem zlK (ds:List PyData):zeF (.l (ds.map O.d))=some (.l (ds.map O.d)):=by
 unfold zeF;rw[show els (.l (ds.map O.d))=some (_,ds.map O.d) from rfl];dsimp only;rw[zfJ]
theorem zlG {n:Int} {rs:List Road} (ok:zbM n rs):zaM [.d (netD n rs)]=.ok (netO n rs) []:=by
 have:=ok.len
 unfold zaM zcN netO zaJ netD zau;simp (disch:=omega) [zbx,ixN];rfl
theorem zeU (n k:Int):zbk [.d (.int n),.d (.int k)]=.ok (.d (.bool (decide (0<=k/\k < n)))) []:=by
 unfold zbk zcJ
 by_cases h:0<=k<;>simp (disch:=omega) [h]
theorem zib {n:Int} {r:Road} (ok:zkC n r):zch [.d (.int n),.d (zav r)]=.ok (.d (.bool true)) []:=by
 obtain ⟨⟨h1,h2⟩,⟨h3,h4⟩,h5,h6⟩:=ok;unfold zch zc2 zav;simp (disch:=omega) [zeU,h1,h2,h3,h4,h5,h6]
@[simp] theorem zqr (b:Bool):trV (.d (.bool b))=some b:=rfl
theorem zdb:∀{ds:List PyData} {k:Nat} {i:Nat} {x:O},(zcQ k ds)[i]? = some x->∃d,ds[i]? = some d/\x=.d (.tuple [.int ((k+i:Nat):Int),d])
 | [],_,_,_,h=>by simp[zcQ] at h
 | d::ds,k,0,x,h=>by
  simp[zcQ] at h;exact ⟨d,rfl,by rw[<-h];simp⟩
 | d::ds,k,i+1,x,h=>by
  rw[zcQ,List.getElem?_cons_succ] at h;obtain ⟨y,hy,e⟩:=zdb h;exact ⟨y,by simpa using hy,by rw[e,Nat.add_right_comm];rfl⟩
theorem zf4 {n:Int} {rs:List Road} (ok:zbM n rs):zbR [.d (netD n rs)]=.ok (.d .none) []:=by
 have h0:=ok.n0;have h1:=ok.n1;have h2:¬(60:Int) < rs.length:=by have:=ok.len;omega
 obtain ⟨ρ',e,z3,z4,rfl⟩:=zcA (G:=gtT (zam (gtN 3) (zam (gtN 4) zbD))) (S:=zbZ) (items:=zcQ 0 (rs.map zav)) (ρ:=[.d (netD n rs),.d (.int n),.d (zau rs),.z,.z])
  (fun i ρ=>∃z3 z4:O,ρ=[.d (netD n rs),.d (.int n),.d (zau rs),z3,z4]) ⟨_,_,rfl⟩
  (fun i x ρ hx hx__=>by
   obtain ⟨z3,z4,e⟩:=hx__;subst e;obtain ⟨d,hd,rfl⟩:=zdb hx;rw[List.getElem?_map] at hd;obtain ⟨r,hr,rfl⟩:=Option.map_eq_some_iff.mp hd;have hr:=zib (ok.rd r (List.mem_of_getElem? hr));refine ⟨_,_,by exact rfl, ?_,.d (.int i),.d (zav r),rfl⟩;unfold zbZ;simp (disch:=omega) [hr])
 unfold zbR zcp;unfold netD zau at *;simp (disch:=omega) [h0,h1,h2,e]
theorem zdQ {n k:Int} {rs:List Road} (h0:0<=k) (h1:k < n):za7 [.d (netD n rs),.d (.int k)]=.ok (.d .none) []:=by
 unfold za7 zb0 netD;simp (disch:=omega) [zeU,h0,h1,ixN]
theorem zel {n k l:Int} {rs:List Road} (ok:zbM n rs) (h0:0<=k/\k < n) (h1:0<=l/\l < n):za9 [.d (netD n rs),.d (.int k),.d (.int l)]=.ok (.d .none) []:=by
 unfold za9 zbC;simp (disch:=omega) [zf4 ok,zdQ h0.1 h0.2,zdQ h1.1 h1.2]
def cO:Option Int->O
 | none=>.d .none
 | some x=>.d (.int x)
def rowO (r:List (Option Int)):O:=.l (r.map cO)
theorem zfu {n:Nat} {i:Int} (h:0<=i/\i < n):ixN n i=some i.toNat:=by unfold ixN;rw[if_pos h.1,if_pos h.2]
theorem zoR {T:TF} {S U:SF} {ρ ρ':Rho} {q:Bool} (h:T ρ=.ok true ρ' q):sIf T S U ρ=S ρ':=by simp[h]
section
variable {w0 w1 w2 z4 z5 z6 z7 z8 z9:O} {t:Tab} {n:Nat}
end
section
variable {w0 w1 w2 z4 z5 z6 z7 z8 z9:O} {n:Nat}
end
theorem zdv (l:List O):l.filter (fun _=>true)=l:=List.filter_eq_self.mpr (by simp)
def fnO (f:Int->O) (n:Nat):O:=.l ((List.range n).map fun v:Nat=>f v)
def hO (h:Int->Int) (v:Int):O:=.d (.int (h v))
def eO (e:Int->Option Int) (v:Int):O:=cO (e v)
theorem cO_d (o:Option Int):∃x,cO o=.d x:=by cases o<;>exact ⟨_,rfl⟩
theorem zoW (h:Int->Int) (v x:Int):up1 (hO h) v (.d (.int x))=hO (up1 h v x):=by
 funext y;by_cases z:y=v<;>simp[up1,hO,z]
theorem zoU (e:Int->Option Int) (v:Int) (x:Option Int):up1 (eO e) v (cO x)=eO (up1 e v x):=by
 funext y;by_cases z:y=v<;>simp[up1,eO,z]
theorem zn9 {ρ:Rho} {k a:Nat} {f:Int->O} {n:Nat} {i:Int} {x:PyData} (hk:ρ[k]? = some (fnO f n)) (ha:ρ[a]? = some (.d (.int i))) (hi:0<=i/\i < n) (hf:f i=.d x) :
  eIx (zab k) (zab a) ρ=.ok (.own (.d x)) ρ true:=by
 have f1:gIx ρ (.at k []) i=some (.own (.d x)):=by
  rw[zfb,hk];unfold fnO
  have:((i.toNat:Nat):Int)=i:=by omega
  have hl:i.toNat < n:=by omega
  simp[els,zfu (n:=n) (i:=i) hi,hl,this,hf,zfV]
 simp[hk,ha,f1,fnO,-zfb]
theorem zn3 {ρ:Rho} {k b:Nat} {f:Int->O} {n:Nat} {i:Int} {A:EF} {o:O} {r0:Rv} {q:Bool} (hA:A ρ=.ok r0 ρ q) (hc:coe ρ r0=some (o,ρ)) (hk:ρ[k]? = some (fnO f n)) (hb:ρ[b]? = some (.d (.int i))) (hi:0<=i/\i < n) :
  sSub coe A (zab k) (zab b) ρ=.nx (ρ.set k (fnO (up1 f i o) n)):=by
 have f4:L2.zdz ρ (.at k []) (fun os=>(ixN os.length i).map fun z=>os.set z o)=some (ρ.set k (fnO (up1 f i o) n)):=by
  rw[zhg,hk];unfold fnO;simp only[List.length_map,List.length_range,zfu hi,Option.map_some]
  congr 3
  apply List.ext_getElem?;intro j
  by_cases e:i.toNat=j
  .subst e
   have:((i.toNat:Nat):Int)=i:=by omega
   have hl:i.toNat < n:=by omega
   simp[hl,this,up1]
  .rw[List.getElem?_set_ne e];rw[List.getElem?_map,List.getElem?_map]
   by_cases hj:j < n
   .simp[hj,up1];intro z;omega
   .simp[hj]
 simp[hA,hc,hk,hb,f4,fnO,-zhg]
theorem zjf {w0 z3 z4:O} {n:Nat} {h:Int->Int} {e:Int->Option Int} {l:Option Int} {k:Int} {r:Road} (h1:0<=r.1/\r.1 < n) (h2:0<=r.2.1/\r.2.1 < n) :
  zbn [w0,fnO (hO h) n,fnO (eO e) n,cO l,.d (.int k),.d (.int r.1),.d (.int r.2.1),.d (.int r.2.2)]=if h r.1+r.2.2 < h r.2.1 then .nx [w0,fnO (hO (up1 h r.2.1 (h r.1+r.2.2))) n,fnO (eO (up1 e r.2.1 (some k))) n,cO (some r.2.1),.d (.int k),.d (.int r.1),.d (.int r.2.1),.d (.int r.2.2)] else .nx [w0,fnO (hO h) n,fnO (eO e) n,cO l,.d (.int k),.d (.int r.1),.d (.int r.2.1),.d (.int r.2.2)]:=by
 have r1:=zn9 (ρ:=[w0,fnO (hO h) n,fnO (eO e) n,cO l,.d (.int k),.d (.int r.1),.d (.int r.2.1),.d (.int r.2.2)]) (k:=1) (a:=5) (f:=hO h) (n:=n) (i:=r.1) rfl rfl h1 rfl;have r2:=zn9 (ρ:=[w0,fnO (hO h) n,fnO (eO e) n,cO l,.d (.int k),.d (.int r.1),.d (.int r.2.1),.d (.int r.2.2)]) (k:=1) (a:=6) (f:=hO h) (n:=n) (i:=r.2.1) rfl rfl h2 rfl;unfold zbn
 by_cases c:h r.1+r.2.2 < h r.2.1
 .rw[if_pos c,zoR (q:=true) (ρ':=[w0,fnO (hO h) n,fnO (eO e) n,cO l,.d (.int k),.d (.int r.1),.d (.int r.2.1),.d (.int r.2.2)]) (by simp[r1,r2,-zg3,c])];have w1:=zn3 (ρ:=[w0,fnO (hO h) n,fnO (eO e) n,cO l,.d (.int k),.d (.int r.1),.d (.int r.2.1),.d (.int r.2.2)]) (k:=1) (b:=6) (f:=hO h) (n:=n) (i:=r.2.1) (A:=e2 (eIx (zab 1) (zab 5)) (zab 7) fAdd) (o:=.d (.int (h r.1+r.2.2))) (r0:=.own (.d (.int (h r.1+r.2.2)))) (q:=true) (by simp[r1,-zg3]) rfl rfl rfl h2;rw[zoW] at w1;rw[zdx w1];have w2:=zn3 (ρ:=[w0,fnO (hO (up1 h r.2.1 (h r.1+r.2.2))) n,fnO (eO e) n,cO l,.d (.int k),.d (.int r.1),.d (.int r.2.1),.d (.int r.2.2)]) (k:=2) (b:=6) (f:=eO e) (n:=n) (i:=r.2.1) (A:=zab 4) (o:=cO (some k)) (r0:=.at 4 []) (q:=true) rfl rfl rfl rfl h2;rw[zoU] at w2;have w2':sSub coe (zab 4) (zab 2) (zab 6) ([w0,fnO (hO h) n,fnO (eO e) n,cO l,.d (.int k),.d (.int r.1),.d (.int r.2.1),.d (.int r.2.2)].set 1 (fnO (hO (up1 h r.2.1 (h r.1+r.2.2))) n))=_:=w2;rw[zdx w2'];exact (zaC rfl rfl rfl)
 .rw[if_neg c];simp[r1,r2,-zg3,c]
theorem zc4:∀(ds:List PyData) (k:Nat),(zcQ k ds).length=ds.length
 | [],_=>rfl
 | d::ds,k=>by rw[zcQ,List.length_cons,zc4 ds,List.length_cons]
theorem zfH {n:Int} {rs:List Road} (ok:zbM n rs) (b:Bf) :
  zbH [.d (zau rs),fnO (hO b.h) n.toNat,fnO (eO b.e) n.toNat]=.ok (cO (za3 rs b).l) [fnO (hO (za3 rs b).h) n.toNat,fnO (eO (za3 rs b).e) n.toNat]:=by
 have n0:=ok.n0;obtain ⟨ρ',e,z4,z5,z6,z7,rfl⟩:=zcA (G:=gtT (zam (gtN 4) (zam (gtT (zam (gtN 5) (zam (gtN 6) (zam (gtN 7) zbD)))) zbD))) (S:=zbn) (items:=zcQ 0 (rs.map zav)) (ρ:=[.d (zau rs),fnO (hO b.h) n.toNat,fnO (eO b.e) n.toNat,.d .none,.z,.z,.z,.z])
  (fun i ρ=>∃z4 z5 z6 z7,ρ=[.d (zau rs),fnO (hO (bfTo rs b i).h) n.toNat,fnO (eO (bfTo rs b i).e) n.toNat,cO (bfTo rs b i).l,z4,z5,z6,z7]) ⟨_,_,_,_,rfl⟩
  (fun i x ρ hx hx__=>by
   obtain ⟨z4,z5,z6,z7,e⟩:=hx__;subst e;obtain ⟨d,hd,rfl⟩:=zdb hx;rw[List.getElem?_map] at hd;obtain ⟨r,hr,rfl⟩:=Option.map_eq_some_iff.mp hd;obtain ⟨⟨a1,a2⟩,⟨b1,b2⟩,_⟩:=ok.rd r (List.mem_of_getElem? hr);have st:=zjf (w0:=.d (zau rs)) (z3:=.z) (z4:=.z) (n:=n.toNat) (h:=(bfTo rs b i).h) (e:=(bfTo rs b i).e) (l:=(bfTo rs b i).l) (k:=i) (r:=r) (by omega) (by omega);have eb:bfTo rs b (i+1)=zgz rs (bfTo rs b i) i:=zdm _ _ _;rw[eb];unfold zgz;rw[hr];dsimp only;refine ⟨[.d (zau rs),fnO (hO (bfTo rs b i).h) n.toNat,fnO (eO (bfTo rs b i).e) n.toNat,cO (bfTo rs b i).l,.d (.int i),.d (.int r.1),.d (.int r.2.1),.d (.int r.2.2)], ?_⟩;rw[st];split
   .exact ⟨_,by simp[zav],rfl,_,_,_,_,rfl⟩
   .exact ⟨_,by simp[zav],rfl,_,_,_,_,rfl⟩)
 rw[zc4,List.length_map] at e;obtain ⟨x,hx⟩:=cO_d (za3 rs b).l;rw[show bfTo rs b rs.length=za3 rs b from rfl,hx] at e;rw[hx];unfold zbH zce;unfold zau fnO at *;simp[e]
theorem zhz (x:PyData):∀k:Nat,(List.map O.d (List.replicate k [x]).flatten)=List.replicate k (O.d x)
 | 0=>rfl
 | k+1=>by rw[List.replicate_succ,List.flatten_cons,List.map_append,zhz x k];rfl
theorem zfR {x:PyData} {c:Int} (c0:0<=c) (c1:c<=1000):fMul (.l [.d x]) (.d (.int c))=some (.l (List.replicate c.toNat (.d x))):=by
 have z:(1:Nat) * c.toNat<=sizeLine:=zbx (by omega);unfold fMul;dsimp only[els,lds,Option.map];rw[if_pos ⟨by omega,by omega,z⟩,zhz]
theorem zfh {n:Int} {rs:List Road} (ok:zbM n rs) {w0 w1 w2:O}:∀(items:List O) (b:Bf) (z6 z7:O),(items.length=0->z6=cO b.l)->
  ∃z7',forF (gtN 7) zci items [w0,w1,w2,.d (zau rs),fnO (hO b.h) n.toNat,fnO (eO b.e) n.toNat,z6,z7]=.nx [w0,w1,w2,.d (zau rs),fnO (hO (zcw rs items.length b).h) n.toNat,fnO (eO (zcw rs items.length b).e) n.toNat,cO (zcw rs items.length b).l,z7']
 | [],b,z6,z7,h=>⟨z7,by rw[h rfl];rfl⟩
 | x::xs,b,z6,z7,_=>by
  have on:=zfH ok b;have st:zci [w0,w1,w2,.d (zau rs),fnO (hO b.h) n.toNat,fnO (eO b.e) n.toNat,z6,x]=if (za3 rs b).l=none then .br [w0,w1,w2,.d (zau rs),fnO (hO (za3 rs b).h) n.toNat,fnO (eO (za3 rs b).e) n.toNat,cO (za3 rs b).l,x] else .nx [w0,w1,w2,.d (zau rs),fnO (hO (za3 rs b).h) n.toNat,fnO (eO (za3 rs b).e) n.toNat,cO (za3 rs b).l,x]:=by
   unfold zci
   cases e:(za3 rs b).l with
   | none=>
    rw[e] at on;unfold fnO zau cO at *;exact (zas (zaC (zaO (zad rfl (zad rfl (zad rfl rfl rfl) rfl) rfl) rfl on rfl rfl) rfl rfl) (if_t (za0 (zaD rfl rfl rfl rfl rfl rfl) rfl) rfl))
   | some v=>
    rw[e] at on;unfold fnO zau cO at *;exact (zas (zaC (zaO (zad rfl (zad rfl (zad rfl rfl rfl) rfl) rfl) rfl on rfl rfl) rfl rfl) (if_f (za0 (zaD rfl rfl rfl rfl rfl rfl) rfl) rfl))
  have g:gtN 7 x [w0,w1,w2,.d (zau rs),fnO (hO b.h) n.toNat,fnO (eO b.e) n.toNat,z6,z7]=some [w0,w1,w2,.d (zau rs),fnO (hO b.h) n.toNat,fnO (eO b.e) n.toNat,z6,x]:=by simp
  by_cases e:(za3 rs b).l=none
  .rw[if_pos e] at st;refine ⟨x, ?_⟩;rw[forF,g];dsimp only;rw[st];dsimp only;rw[List.length_cons,zcw,if_pos e]
  .rw[if_neg e] at st;obtain ⟨z7',ih⟩:=zfh ok xs (za3 rs b) (cO (za3 rs b).l) x fun _=>rfl
   refine ⟨z7', ?_⟩;rw[forF,g];dsimp only;rw[st];dsimp only;rw[List.length_cons,zcw,if_neg e];exact ih
@[simp] theorem zqg (k:Nat) (x:PyData):fz (.l (List.replicate k (.d x)))=some (.list (List.replicate k x)):=by
 have:=zgQ (List.replicate k x)
 rwa [List.map_replicate] at this
theorem zjF (n:Nat) (a:Int):fnO (hO fun _=>a) n=.l (List.replicate n (.d (.int a))):=by
 unfold fnO hO;rw[List.map_const'];simp
theorem zi0 {n:Int} {rs:List Road} (ok:zbM n rs) (s:Int->Int) :
  zcT [.d (netD n rs),fnO (hO s) n.toNat]=.ok (.t [fnO (hO (zbW n.toNat rs s).h) n.toNat,fnO (eO (zbW n.toNat rs s).e) n.toNat,cO (zbW n.toNat rs s).l]) []:=by
 have n0:=ok.n0;have n1:=ok.n1;have hr:okR n=true:=zee (by omega) (by omega);obtain ⟨z7,e⟩:=zfh ok (w0:=.d (netD n rs)) (w1:=.l (((List.range n.toNat).map fun v:Nat=>PyData.int (s v)).map O.d)) (w2:=.d (.int n)) (rngO 0 n.toNat) ⟨s,fun _=>none,none⟩ (.d .none) .z (fun _=>rfl);rw[zb1,show zcw rs n.toNat ⟨s,fun _=>none,none⟩=zbW n.toNat rs s from rfl] at e;have b1:fnO (hO s) n.toNat=.l (((List.range n.toNat).map fun v:Nat=>PyData.int (s v)).map O.d):=by
  unfold fnO;rw[List.map_map];rfl
 have b2:fnO (eO fun _=>none) n.toNat=.l (List.replicate n.toNat (.d .none)):=by
  unfold fnO eO cO;rw[List.map_const'];simp
 dsimp only at e;rw[b1,b2] at e;rw[b1];obtain ⟨x,hx⟩:=cO_d (zbW n.toNat rs s).l;rw[hx] at e ⊢;unfold zcT zdH;unfold fnO netD zau at *;simp (disch:=omega) [e,zh6 hr,zfR,zbx,-List.map_map];rfl
theorem zfU {n:Int} {rs:List Road} (N:zbM n rs) (T:Taut rs):zbK [.d (netD n rs)]=.ok (.d .none) []:=by
 have n0:=N.n0;have n1:=N.n1;have lo:=zi0 N (fun _=>0);rw[(zgU N T _).1,zjF] at lo;unfold zbK zcf;unfold fnO netD cO at *;exact (zne rfl (zas (zaC (zaO (zad rfl (zad (zaD (zaP (zad rfl rfl rfl) rfl (Nat.le_of_ble_eq_true rfl) rfl) (zck rfl (za1 rfl rfl rfl) rfl rfl) rfl rfl rfl (zfR n0 (by omega))) rfl rfl) rfl) rfl lo rfl rfl) rfl rfl) (if_f (za0 (zaD rfl rfl rfl rfl rfl rfl) rfl) rfl)) rfl)
theorem ziE (R:List Int):fz (zaA R)=some (.list (R.map .int)):=by
 unfold zaA
 have:=zgQ (R.map PyData.int)
 rw[List.map_map] at this;exact this
theorem zhw:∀R:List Int,dIs (R.map PyData.int)=some R
 | []=>rfl
 | x::xs=>by rw[List.map_cons,dIs,zhw xs];rfl
theorem zjp (R:List Int):zsOf (zaA R)=some R:=by
 unfold zsOf;rw[ziE];exact zhw R
def oD:Option Int->PyData
 | none=>.none
 | some x=>.int x
theorem zmS (o:Option Int):cO o=.d (oD o):=by cases o<;>rfl
theorem ziy {p:O} {m:Int} {ws:List O} (hp:PuOk p m) (hm:m<=1125899906842624):∃(hs:List Int) (p':O) (q:Bool),eLC (itR1 (eC (.int 20))) [none,some 0] (gtN 0) (gRet true) zb9 (p::ws)=.ok (.own (zaA hs)) (p'::ws) q/\hs.length=20/\(∀h∈hs,-100000000<=h/\h<=100000000)/\PuOk p' (m+160):=by
 obtain ⟨hs,p',q',e,hl,hb,hp'⟩:=zny 20 ws hp hm (by omega);refine ⟨hs,p',q', ?_,hl,hb,hp'⟩;have hr:okR 20=true:=rfl;have e':lcF [none,some 0] (gtN 0) (gRet true) zb9 (rngO 0 20) (p::ws) [] true=.ok (hs.map fun h=>.d (.int h)) (p'::ws) q':=e;simp (disch:=omega) [zh6 hr,e',zbx,zaA]
theorem zjx {p:O} {m:Int} {w3 w4 w5:O} {hs:List Int} {rs:List Road} (hp:PuOk p m) (hm:m<=1125899906842024) (hl:hs.length=20) (hb:∀h∈hs,-100000000<=h/\h<=100000000) (hr:RdOk 20 hs rs) (hn:rs.length<=900) :
  ∃(rs':List Road) (p' w4' w5':O),zbE [p,zaA hs,zaJ rs,w3,w4,w5]=.nx [p',zaA hs,zaJ rs',w3,w4',w5']/\rs'.length<=rs.length+1/\RdOk 20 hs rs'/\PuOk p' (m+16):=by
 obtain ⟨x0,y0,z0,rfl⟩:=hp.sh;obtain ⟨i,p1,e1,l1,u1,hp1⟩:=zbb hp (by omega) (n:=20) (by decide) (by decide);obtain ⟨x1,y1,z1,rfl⟩:=hp1.sh;obtain ⟨j,p2,e2,l2,u2,hp2⟩:=zbb hp1 (by omega) (n:=20) (by decide) (by decide);obtain ⟨x2,y2,z2,rfl⟩:=hp2.sh;obtain ⟨g,p3,e3,l3,u3,hp3⟩:=zbb hp2 (by omega) (n:=2) (by decide) (by decide);obtain ⟨x3,y3,z3,rfl⟩:=hp3.sh;obtain ⟨s,p4,e4,l4,u4,hp4⟩:=zbb hp3 (by omega) (n:=3) (by decide) (by decide);obtain ⟨x4,y4,z4,rfl⟩:=hp4.sh;have get:∀k:Int,0<=k/\k < hs.length->hs[k.toNat]? = some (hgt hs k):=fun k hk=>by
  unfold hgt;rw[List.getD_eq_getElem?_getD,List.getElem?_eq_getElem (by omega)];rfl
 obtain ⟨k,hk,k0,k1⟩:∃k:Int,([.d (.int ((i+1) % 20)),.d (.int j)]:List O)[g.toNat]? = some (.d (.int k))/\0<=k/\k < 20:=by
  have hg:g=0\/g=1:=by omega
  rcases hg with rfl | rfl
  .exact ⟨_,rfl,by omega,by omega⟩
  .exact ⟨_,rfl,l2,u2⟩
 have ei:=get i (by omega);have ek:=get k (by omega);refine ⟨rs++[(i,k,hgt hs k - hgt hs i+s)],.l [.d (.int x4),.d (.int y4),.d (.int z4)],.d (.int i),.d (.int k), ?_,by simp,hr.add hb ⟨l1,u1⟩ ⟨k0,k1⟩ l4 (by omega) fun r h=>h,hp4.mono (by omega)⟩;unfold zbE;rw[zdx (ρ':=[.l [.d (.int x1),.d (.int y1),.d (.int z1)],zaA hs,zaJ rs,w3,.d (.int i),w5]) (zaC (zaO (zad rfl (zad rfl rfl rfl) rfl) rfl e1 rfl rfl) rfl rfl)];rw[zdx (ρ':=[.l [.d (.int x3),.d (.int y3),.d (.int z3)],zaA hs,zaJ rs,w3,.d (.int i),.d (.int k)]) (by
  unfold zaA zaJ;simp (disch:=omega) [e2,e3,zbx,ixN,zd0,l3,u3,hk])]
 have hi20:i < (hs.length:Int):=by omega
 have hk20:k < (hs.length:Int):=by omega
 unfold zaA zaJ;simp (disch:=omega) [zbx,zeq,ixN,l1,k0,hi20,hk20,ei,ek,e4,-getElem?_pos,zav]
theorem zlS {p:O} {m:Int} (hp:PuOk p m) (hm:m<=562949953421312) :
  ∃(rs:List Road) (p':O),zby [p]=.ok (netO 20 rs) [p']/\Net 20 rs/\PuOk p' (m+2000):=by
 obtain ⟨hs,p2,q,e2,hl,hb,hp2⟩:=ziy (ws:=[.z,.z,.z,.z,.z]) hp (by omega);obtain ⟨x0,y0,z0,rfl⟩:=hp.sh;obtain ⟨x2,y2,z2,rfl⟩:=hp2.sh;obtain ⟨ρ',e4,rs,p4,v3,v4,v5,rfl,hn,hr,hp4⟩:=zcA (G:=gtN 3) (S:=zbE) (items:=rngO 0 60) (ρ:=[.l [.d (.int x2),.d (.int y2),.d (.int z2)],zaA hs,.l [],.z,.z,.z])
  (fun i ρ=>∃(rs:List Road) (p4 v3 v4 v5:O),ρ=[p4,zaA hs,zaJ rs,v3,v4,v5]/\rs.length<=i/\RdOk 20 hs rs/\PuOk p4 (m+160+16 * i))
  ⟨[],_,_,_,_,rfl,by simp,⟨by simp,by simp[Pot],by simp⟩,hp2.mono (by omega)⟩
  (fun i x ρ hx hx__=>by
   obtain ⟨rs,p4,v3,v4,v5,e,hn,hr,hp4⟩:=hx__;obtain ⟨hi,rfl⟩:=zcy hx;subst e;obtain ⟨rs',p',v4',v5',e5,hn',hr',hp'⟩:=zjx (w3:=.d (.int (0+i))) (w4:=v4) (w5:=v5) hp4 (by omega) hl hb hr (by omega);exact ⟨_,_,by simp;rfl,by simpa using e5,rs',p',_,v4',v5',rfl,by omega,hr',hp'.mono (by omega)⟩)
 rw[zb1] at hn hp4;refine ⟨rs,p4, ?_,⟨⟨by omega,by omega,by omega,fun r h=>?_⟩,by omega,hr.pot.taut⟩,hp4.mono (by omega)⟩
 .unfold zby zcF;have hk:okR 60=true:=rfl;obtain ⟨x4,y4,z4,rfl⟩:=hp4.sh;unfold netO zaJ zaA at *;simp (disch:=omega) [e2,-zjz,zh6 hk,e4,zbx];rfl
 .obtain ⟨a,b,c⟩:=hr.rd r h;exact ⟨a,b,by omega,by omega⟩
@[simp] theorem zo1 (ρ:Rho) (i:Nat) (x:PyData) (h:ρ[i]? = some (.d x)):zej ρ (.at i [])=none:=by
 simp[zej,h]
theorem zjT (rs:List Road):fz (zaJ rs)=some (zau rs):=by
 have:=zgQ (rs.map zav)
 rw[List.map_map] at this;exact this
theorem zkT (n:Int) (rs:List Road):fz (netO n rs)=some (netD n rs):=by
 unfold netO netD;rw[fz,fzs,fz_d,fzs,zjT,fzs];rfl
theorem zhu (r:List (Option Int)):fz (rowO r)=some (rowD r):=by
 unfold rowO rowD
 have:=zgQ (r.map optD)
 rw[List.map_map] at this;rw[<-this]
 congr 2
 apply List.map_congr_left;intro o _
 cases o<;>rfl
theorem zii {n:Int} {rs:List Road}:SeqAt.shaped (netD n rs)=true/\PyData.eqv (netD n rs) (netD n rs)=true:=by
 have h:∀rs:List Road,PyData.canLayAll0 (rs.map zav)=true/\PyData.depthAll (rs.map zav)<=2:=by
  intro rs
  induction rs with
  | nil=>simp[PyData.canLayAll0,PyData.depthAll]
  | cons x xs ih=>simp[PyData.canLayAll0,PyData.depthAll,PyData.canLay0,PyData.depth,ih,zav];omega
 have c:(netD n rs).canLay0=true:=by simp[netD,zau,PyData.canLay0,PyData.canLayAll0,(h rs).1]
 refine ⟨?_,zeL _ c⟩;simp only[SeqAt.shaped,c,Bool.true_and,decide_eq_true_eq]
 have:=(h rs).2
 simp[netD,zau,PyData.depth,PyData.depthAll];omega
theorem zeY:∀r:List (Option Int),PyData.canLayAll0 (r.map optD)=true/\PyData.depthAll (r.map optD)=0
 | []=>by simp[PyData.canLayAll0,PyData.depthAll]
 | o::r=>by
  have:=zeY r
  cases o<;>simp[PyData.canLayAll0,PyData.depthAll,PyData.canLay0,PyData.depth,optD,this]
theorem zhX (r:List (Option Int)):SeqAt.shaped (rowD r)=true:=by
 have:=zeY r
 simp[SeqAt.shaped,rowD,PyData.canLay0,PyData.depth,this]
theorem zkg (r:List (Option Int)):((r.map optD).any fun y=>PyData.eqv y .none)=decide (none∈r):=by
 induction r with
 | nil=>simp
 | cons o r ih=>
  rw[List.map_cons,List.any_cons,ih]
  cases o<;>simp[PyData.eqv,optD]
end My
noncomputable section
namespace My
open PySem L2
def zct:SF:=(sRet coe (eAnd (e1 (zab 0) (fIsi "int")) (eNot (e1 (zab 0) (fIsi "bool")))))
def zaQ:FC:=runF [false] 1 zct
end My
end
namespace My
open PySem L2
end My
noncomputable section
namespace My
open PySem L2
def zcC:EF:=(zab 0)
def zbS:TF:=(gNot (eSc trV (zaq [false] zaQ (zae (zab 0) aNil))))
def zcb:SF:=(sRet coe (eAnd (e1 (zab 0) (fIsi "list")) (e2 (eB (zae (eLS (srcM true (fun ds=>ds.map O.d) (zab 0)) [none] (gtN 0) zbS zcC) aNil) (f1 fLen)) (eC (.int 0)) (fEq false))))
def zaW:FC:=runF [false] 1 zcb
def zbo:SF:=(sSeq (sIf (gOr (gNot (zdA (eC (.int 0)) (zab 5) (eB (zae (eIx (zab 0) (eC (.int 1))) aNil) (f1 fLen)) (fun i j=>decide (i<=j)) (fun i j=>decide (i < j)))) (tst (e2 (eIx (eIx (eIx (zab 0) (eC (.int 1))) (zab 5)) (eC (.int 0))) (zab 4) (fEq true)))) (sRet mov (eC (.bool false))) sNil)
  (sAsg coe (eIx (eIx (eIx (zab 0) (eC (.int 1))) (zab 5)) (eC (.int 1))) (gtN 4)))
def zca:SF:=(sSeq (sAsg coe (zab 1) (gtN 4))
  (sSeq (zep (srcM false (fun ds=>ds.map O.d) (zab 3)) (gtN 5) zbo)
  (sRet mov (e2 (zab 4) (zab 2) (fEq false)))))
def zaV:FC:=runF [false,false,false,false] 6 zca
def zbJ:EF:=(eIx (eIx (eIx (zab 1) (eC (.int 1))) (zab 0)) (eC (.int 2)))
def zcO:SF:=(sRet coe (eB (zae (eLS (srcM true (fun ds=>ds.map O.d) (zab 1)) [none,some 0] (gtN 0) (gRet true) zbJ) aNil) (f1 fSum)))
def zbh:FC:=runF [false,false] 2 zcO
end My
end
namespace My
open PySem L2
theorem zkM {ρ:Rho} {k:Nat} {ds:List PyData} {i:Int} {j:Nat} {x:PyData} (hk:ρ[k]? = some (.d (.list ds))) (hj:ixN ds.length i=some j) (hx:ds[j]? = some x):gIx ρ (.at k []) i=some (.own (.d x)):=by
 rw[zfb,hk];simp[els,hj,hx]
theorem zi9 (ws:List Int):fRev (zaA ws)=some (zaA ws.reverse):=by
 have e:ws.map (fun h=>O.d (PyData.int h))=(ws.map PyData.int).map O.d:=by rw[List.map_map];rfl
 unfold fRev zaA;rw[e];simp only[els,zfJ];rw[<-List.map_reverse,List.map_map];rfl
theorem zhL (x:Int):zaQ [.d (.int x)]=.ok (.d (.bool true)) []:=by
 have s1:subT "int" "int"=true:=by decide
 have s2:subT "int" "bool"=false:=by decide
 unfold zaQ zct;exact rfl
theorem zdT (ws:List Int):(ws.map PyData.int).map O.d=ws.map fun k=>O.d (.int k):=by rw[List.map_map];rfl
theorem ziI {ws:List Int} (hl:ws.length<=1000):zaW [.d (zeI ws)]=.ok (.d (.bool true)) []:=by
 obtain ⟨q,e⟩:=zeB (js:=[none]) (G:=gtN 0) (T:=zbS) (A:=zcC) (ρ:=[.d (zeI ws)]) (fun _=>false) (fun o=>o) (items:=(ws.map PyData.int).map O.d) (acc:=[]) (q:=true) (fun y hy=>by
  rw[zdT] at hy;obtain ⟨k,_,rfl⟩:=List.mem_map.mp hy;have w:=zhL k;exact ⟨[.d (.int k)],[.d (.int k)],false,by simp,by unfold zbS;simp[w],(fun h=>by cases h),fun _=>by simp⟩)
 have s1:subT "list" "list"=true:=by decide
 have ef:((ws.map PyData.int).map O.d).filter (fun _=>false)=[]:=List.filter_eq_nil_iff.mpr (by simp);rw[ef] at e;unfold zaW zcb;unfold zeI at *;simp (disch:=omega) [s1,zej,sub,e,zbx,-List.map_map]
theorem zim {rs:List Road} {p q k:Int} {ws:List Int} (h:zbf rs p q (k::ws)=true):∃r,zaI rs k=some r/\r.1=p/\zbf rs r.2.1 q ws=true:=by
 rw[zbf] at h
 cases e:zaI rs k with
 | none=>rw[e] at h;cases h
 | some r=>
  rw[e] at h;dsimp only at h
  by_cases z:r.1=p
  .rw[if_pos z] at h;exact ⟨r,rfl,z,h⟩
  .rw[if_neg z] at h;cases h
theorem zhN {ρ:Rho} (r:Road):gIx ρ (.own (.d (zav r))) 0=some (.own (.d (.int r.1)))/\gIx ρ (.own (.d (zav r))) 1=some (.own (.d (.int r.2.1)))/\gIx ρ (.own (.d (zav r))) 2=some (.own (.d (.int r.2.2))):=by
 refine ⟨?_, ?_, ?_⟩<;>rw[zeP]<;>simp[els,zav,ixN]
theorem zgX {n:Int} {rs:List Road} {d1 d2 d3:O} {q:Int}:∀(ws:List Int) (p:Int) (z:O),zbf rs p q ws=true->
  ∃z',forF (gtN 5) zbo (ws.map fun k=>O.d (.int k)) [.d (netD n rs),d1,d2,d3,.d (.int p),z]=.nx [.d (netD n rs),d1,d2,d3,.d (.int q),z']:=by
 intro ws
 induction ws with
 | nil=>
  intro p z h;rw[zbf] at h;obtain rfl:=of_decide_eq_true h;exact ⟨z,rfl⟩
 | cons k ws ih=>
  intro p z h;obtain ⟨r,hr,hp,h'⟩:=zim h;obtain ⟨h0,h1,h2⟩:=zcd hr;obtain ⟨z',e⟩:=ih r.2.1 (.d (.int k)) h';refine ⟨z', ?_⟩;have gr:∀ρ,gIx ρ (.own (.d (.list (rs.map zav)))) k=some (.own (.d (zav r))):=fun ρ=>by
   rw[zeP]
   have:=zfu (n:=rs.length) (i:=k) ⟨h0,h1⟩
   simp[els,this,h2]
  have g0:=fun ρ=>(zhN (ρ:=ρ) r).1
  have g1:=fun ρ=>(zhN (ρ:=ρ) r).2.1
  have gn:∀ρ:Rho,ρ[0]? = some (.d (netD n rs))->gIx ρ (.at 0 []) 1=some (.own (.d (.list (rs.map zav)))):=fun ρ hρ=>by
   rw[zfb,hρ];exact rfl
  have st:zbo [.d (netD n rs),d1,d2,d3,.d (.int p),.d (.int k)]=.nx [.d (netD n rs),d1,d2,d3,.d (.int r.2.1),.d (.int k)]:=by
   unfold zbo;simp[gn,gr,g0,g1,-zfb,-zeP,h0,h1,hp]
  rw[List.map_cons,forF];simp[st,e]
theorem zji {n p q:Int} {rs:List Road} {ws:List Int} (h:zbf rs p q ws=true):zaV [.d (netD n rs),.d (.int p),.d (.int q),.d (zeI ws)]=.ok (.d (.bool true)) []:=by
 obtain ⟨z',e⟩:=zgX (n:=n) (d1:=.d (.int p)) (d2:=.d (.int q)) (d3:=.d (zeI ws)) ws p .z h;rw[<-zdT] at e;unfold zaV zca;unfold zeI at *;simp[e,-List.map_map]
theorem zj7 {rs:List Road} {k:Int} {r:Road} (hr:zaI rs k=some r) (ρ:Rho):gIx ρ (.own (.d (.list (rs.map zav)))) k=some (.own (.d (zav r))):=by
 obtain ⟨h0,h1,h2⟩:=zcd hr;rw[zeP]
 have:=zfu (n:=rs.length) (i:=k) ⟨h0,h1⟩
 simp[els,this,h2]
theorem zho {n:Int} {rs:List Road} {ρ:Rho} {j:Nat} (hρ:ρ[j]? = some (.d (netD n rs))):gIx ρ (.at j []) 1=some (.own (.d (.list (rs.map zav)))):=by
 rw[zfb,hρ];exact rfl
theorem ziR {n:Int} {rs:List Road} {ws:List Int} (hl:ws.length<=1000) (hA:zlD rs ws):∃q,eLS (srcM true (fun ds=>ds.map O.d) (zab 1)) [none,some 0] (gtN 0) (gRet true) zbJ [.d (netD n rs),.d (zeI ws)]=.ok (.own (zaA (ws.map (zeD rs)))) [.d (netD n rs),.d (zeI ws)] q:=by
 obtain ⟨q,e⟩:=zeB (js:=[none,some 0]) (G:=gtN 0) (T:=gRet true) (A:=zbJ) (ρ:=[.d (netD n rs),.d (zeI ws)]) (fun _=>true) (fun o=>match o with | .d (.int k)=>.d (.int (zeD rs k)) | _=>.z) (items:=(ws.map PyData.int).map O.d) (acc:=[]) (q:=true) (fun y hy=>by
  rw[zdT] at hy;obtain ⟨k,hk,rfl⟩:=List.mem_map.mp hy;obtain ⟨r,hr⟩:∃r,zaI rs k=some r:=by
   obtain ⟨h0,h1⟩:=hA k hk;obtain ⟨r,hr,_⟩:=zi7 h0 h1;exact ⟨r,hr⟩
  have gr:=zj7 hr;have gn:=zho (n:=n) (rs:=rs) (ρ:=[.d (.int k),.d (netD n rs)]) (j:=1) rfl;have g2:=fun ρ=>(zhN (ρ:=ρ) r).2.2
  have el:=zeM hr;refine ⟨[.d (.int k),.d (netD n rs)],[.d (.int k),.d (netD n rs)],true,by simp,by simp,(fun _=>⟨.own (.d (.int (zeD rs k))),[.d (.int k),.d (netD n rs)],true,[.d (.int k),.d (netD n rs)], ?_,by simp,by simp⟩),(fun h=>by cases h)⟩;unfold zbJ;rw[el];simp[gr,gn,g2,-zfb,-zeP])
 have em:((ws.map PyData.int).map O.d).map (fun o=>match o with | .d (.int k)=>O.d (.int (zeD rs k)) | _=>.z)=(ws.map (zeD rs)).map fun h=>O.d (.int h):=by
  rw[zdT,List.map_map,List.map_map];rfl
 rw[zdv,List.nil_append,em] at e;refine ⟨q, ?_⟩;unfold zaA zeI at *;generalize (ws.map (zeD rs)).map (fun h=>O.d (PyData.int h))=Z at *;simp (disch:=omega) [zej,sub,e,zbx,-List.map_map]
theorem zlg {n:Int} {rs:List Road} {ws:List Int} (hl:ws.length<=1000) (hA:zlD rs ws):zbh [.d (netD n rs),.d (zeI ws)]=.ok (.d (.int (zbB rs ws))) []:=by
 obtain ⟨q,e⟩:=ziR (n:=n) hl hA;have z:=zjp (ws.map (zeD rs));unfold zbh zcO zbB;unfold zaA at *;generalize (ws.map (zeD rs)).map (fun h=>O.d (PyData.int h))=Z at *;simp[e,-zk6,f1,fSum,z]
theorem zfI {ms:List Bool} {n:Nat} {S:SF} {os:List O} {o:O} {ρ':Rho} (h:S (os++List.replicate (n - os.length) .z)=.rt o ρ'):runF ms n S os=.ok o (zcm ms ρ'):=by unfold runF;rw[h]
end My
noncomputable section
namespace My
open PySem L2
end My
end
namespace My
open PySem L2
namespace K10
end K10
theorem zfQ {o o':O} {d:PyData} (h:fz o=some d) (h':fz o'=some d) (s:SeqAt.shaped d=true) (e:PyData.eqv d d=true) (b:Bool):fEq b o o'=some (.d (.bool (!b))):=by
 unfold fEq;rw[h,h']
 cases b<;>simp[s,e]
namespace K10
end K10
end My
namespace L2
open PySem PySem.Spec PyProof.Rows
section
variable {X:Cx}
end
end L2
noncomputable section
namespace My
open PySem L2
def zcZ:SF:=(sSeq (sIf (tst (e2 (eC .none) (zab 0) (fIn false))) (sRet mov (eC .none)) sNil)
  (sRet mov (eB (zae (zab 0) aNil) (f1 fSum))))
def zaU:FC:=runF [false] 1 zcZ
end My
end
namespace My
open PySem L2
theorem zgo {a b:List Int} (h:a.length+b.length<=1000):fAdd (zaA a) (zaA b)=some (zaA (a++b)):=by
 have ha:=zdT a;have hb:=zdT b;have hz:(a.map PyData.int).length+(b.map PyData.int).length<=sizeLine:=by
  have:sizeLine=16777216:=rfl
  simp;omega
 unfold zaA;rw[<-ha,<-hb];simp only[fAdd,els,zfJ];rw[if_pos hz,<-zdT,List.map_append,List.map_append,List.map_append]
namespace By
end By
end My
namespace L2
open PySem PySem.Spec PyProof.Rows
section
variable {mg:Str->Option Value} {K:PySem.W.Frag} {H:Hp} {W:Addr->Prop} {σ:St} {ρ ρ':Rho} {f g:Fp}
end
section
variable {mg:Str->Option Value} {K:PySem.W.Frag} {H:Hp} {W:Addr->Prop}
end
section
variable {mg:Str->Option Value} {K:PySem.W.Frag} {E:XK}
end
section
variable {X:Cx} {E:XK} {L:List Nat} {scope:Scope} {pos:Pos} {N':List Str}
end
section
variable {mg:Str->Option Value} {K:PySem.W.Frag} {E:XK}
end
section
variable {X:Cx} {E:XK} {L:List Nat} {scope:Scope} {pos:Pos} {N':List Str}
end
end L2
noncomputable section
namespace My
open PySem L2
end My
end
namespace My
open PySem L2
theorem zjX (rs:List Road):zaJ rs=.l ((rs.map zav).map O.d):=by
 unfold zaJ;rw[List.map_map];rfl
namespace F24
theorem zdP {ρ:Rho} {i:Nat} {x:PyData} (h:ρ[i]? = some (.d x)):zab i ρ=.ok (.at i []) ρ true:=by unfold zab;rw[h]
theorem zkI {I:Rho->Re (Src×Bool)} {js:List (Option Nat)} {G:GF} {T:TF} {A:EF} {ρ ρ1 ρ2 ρ3:Rho} {items os:List O} {rs:Option (Nat×O)} {kd q1 q2:Bool} (h:I ρ=.ok ((items,rs),kd) ρ1 q1) (hl:items.length<=sizeLine) (k:lcF js G T A items ρ1 [] true=.ok os ρ2 q2) (hr:zgP rs ρ2=ρ3):eLS I js G T A ρ=.ok (.own (.l os)) ρ3 (q1&&q2):=by
 unfold eLS;rw[h];dsimp only;rw[if_pos hl,k];dsimp only;rw[hr]
end F24
end My
namespace L2
open PySem PySem.Spec PyProof.Rows
section
variable {mg:Str->Option Value} {K:PySem.W.Frag} {H H2:Hp} {W W2:Addr->Prop} {σ σ2:St} {ρ:Rho} {f f2:Fp}
end
section
variable {X:Cx} {E:XK} {L L':List Nat}
end
section
variable {mg:Str->Option Value} {K:PySem.W.Frag} {E:XK}
end
section
variable {X:Cx} {E:XK} {L:List Nat} {scope:Scope} {pos:Pos} {N':List Str}
end
end L2
noncomputable section
namespace My
open PySem L2
end My
end
namespace My
open PySem L2
namespace F29
theorem zlq {A:EF} {ρ ρ1:Rho} {q:Bool} {o:O} {x:PyData} (h:A ρ=.ok (.own o) ρ1 q) (f:fz o=some x):eFz A ρ=.ok (.own (.d x)) ρ1 q:=by unfold eFz;rw[h];dsimp only;rw[f]
section
variable {n k:Int} {ds:List PyData} {as bs cs:List O}
end
theorem zdv (xs:List O):(xs.filter fun _=>true)=xs:=List.filter_eq_self.mpr fun _ _=>rfl
theorem zlX (ρ:Rho):zcm [false,false,false,false] ρ=[]:=by
 rcases ρ with _ | ⟨a,_ | ⟨b,_ | ⟨c,_ | ⟨d,e⟩⟩⟩⟩<;>rfl
section
variable {N S:PyData} {p q k:Int} {so os hs us:List O} {Fc Fs Fl:FC} {t:Bool}
end
section
variable {N:PyData} {p q:Int} {to:List O} {Ft Fr Fw Fi Fo Fl Fh:FC} {c L x y:Int}
end
end F29
theorem zkL (c:Option Int):oD c=optD c:=by cases c<;>rfl
theorem zjB (r:List (Option Int)):fIn false (.d .none) (.d (rowD r))=some (.d (.bool (decide (none∈r)))):=by
 have h:=zhX r;unfold rowD at h ⊢;unfold fIn;rw[fz_d,fz_d];dsimp only;rw[h,zkg];exact rfl
namespace K28
end K28
end My
namespace L2
open PySem PySem.Spec PyProof.Rows
section
variable {mg:Str->Option Value} {K:PySem.W.Frag} {E:XK} {L:List Nat}
end
section
variable {X:Cx} {E:XK} {L:List Nat}
end
section
variable {mg:Str->Option Value} {K:PySem.W.Frag} {H H2:Hp} {W W2:Addr->Prop} {σ:St} {ρ:Rho} {f f2:Fp}
end
end L2
noncomputable section
namespace My
open PySem L2
end My
end
namespace My
open PySem L2
namespace F30
theorem zjN (z:Option Int):scl (.d (oD z))=true:=by cases z<;>rfl
section
variable {w0:O} {N Tb x y:PyData} {p q k:Int} {os:List O} {Fb:FC} {b:Bool}
end
section
variable {N:PyData} {c d l x y:PyData} {p q k u v:Int} {to os:List O} {Fs:FC} {b:Bool}
end
theorem zj8 {A:EF} {ρ:Rho} {q:Bool} {o:O} {ds:List PyData} {mk:List PyData->List O} (h:A ρ=.ok (.own o) ρ q) (f:fz o=some (.list ds)):srcM false mk A ρ=.ok ((mk ds,none),true) ρ q:=by
 unfold srcM;rw[h];simp[Re.bind,zej,cov,coe,f]
section
variable {N Tb S x:PyData} {p q k a s:Int} {to ro so os:List O} {z6:O} {Fs Ft:FC}
end
theorem zdM {I:Rho->Re (Src×Bool)} {G:GF} {S:SF} {ρ ρ1:Rho} {items:List O} {r:Option (Nat×O)} {kd q:Bool} {R:Rt} (h:I ρ=.ok ((items,r),kd) ρ1 q) (k:forF G S items ρ1=R):zep I G S ρ=R:=by
 unfold zep;rw[h];exact k
section
variable {N S x:PyData} {p q k a s:Int} {so to os:List O} {y3 y z7:O} {Fs Fl:FC}
end
end F30
end My
namespace L2
open PySem PySem.Spec PySem.Calls PySem.W PyProof.Rows
section
variable {X:Cx} {E:XK}
end
section
variable (mg:Str->Option Value) (K:PySem.W.Frag) (E:XK) (L:List Nat)
end
section
variable {X:Cx} {L:List Nat}
end
section
variable {X:Cx} {E:XK} {L:List Nat}
end
section
variable {X:Cx} {E:XK}
end
end L2
namespace L2
open PySem PySem.Spec PyProof.Rows
section
variable {X:Cx} {E:XK} {L:List Nat}
end
end L2
namespace L2
open PySem PySem.Spec PySem.Calls PyProof.Rows
section
variable {mg:Str->Option Value} {K:PySem.W.Frag} {E:XK}
end
section
variable {X:Cx} {E:XK} {L:List Nat}
section
variable {elt:Expr} {ifs:List Expr} {scope:Scope} {pos:Pos} {N':List Str} {js:List (Option Nat)} {G:GF} {T:TF} {A:EF} {AA:AF}
end
end
end L2
namespace L2
open PySem PyProof.Rows
section
variable {X:Cx}
end
end L2
noncomputable section
namespace My
open PySem L2
end My
end
namespace My
open PySem L2
namespace F43
section
variable {c d:Int} {a b:List Road} {r:Road} {p q L:Int}
end
theorem zmL {n:Int} {rs:List Road} {ρ:Rho} {j:Nat} (h:ρ[j]? = some (.d (netD n rs))):gIx ρ (.at j []) 0=some (.own (.d (.int n))):=by
 rw[zfb,h];exact rfl
theorem zhi:∀xs:List Int,PyData.canLayAll0 (xs.map PyData.int)=true/\PyData.depthAll (xs.map PyData.int)=0
 | []=>by simp[PyData.canLayAll0,PyData.depthAll]
 | x::xs=>by simp[PyData.canLayAll0,PyData.depthAll,PyData.canLay0,PyData.depth,zhi xs]
theorem zlF {ρ:Rho} {it:Rho->Re (List O)} {k:Nat} {q:Bool} (hk:k<=1000) (hi:it ρ=.ok (rngO 0 k) ρ q):∃q,eLC it [none] (gtN 0) (gRet true) (eC .none) ρ=.ok (.own (.l ((List.replicate k PyData.none).map O.d))) ρ q:=by
 obtain ⟨q,e⟩:=zeB (js:=[none]) (G:=gtN 0) (T:=gRet true) (A:=eC .none) (ρ:=ρ) (fun _=>true) (fun _=>.d .none) (items:=rngO 0 k) (acc:=[]) (q:=true) (fun y hy=>by
  refine ⟨[y],[y],true,rfl,rfl,fun _=>⟨_,_,_,[y],rfl,rfl, ?_⟩,fun h=>by cases h⟩
  rfl)
 have em:((rngO 0 k).map fun _=>O.d .none)=(List.replicate k PyData.none).map O.d:=by
  rw[List.map_const',zb1,List.map_replicate]
 rw[F29.zdv,List.nil_append,em] at e;exact ⟨_,zmT hi (zbx (by rw[zb1];omega)) e⟩
section
variable {N M W Ld T T1 T2:PyData} {c d e:Int} {os xs x1 x2 xx ro ro2 tw fo1 fo2 fo:List O} {la l4 l5 ds d1 d2:List PyData} {q4 q5:Bool} {t4 t5:List O}
end
end F43
end My
namespace L2
open PySem
section
variable {A B C:EF} {AA:AF} {ρ ρ1 ρ2 ρ3 ρ4:Rho} {r ra rb:Rv} {rs:List Rv} {q q1 q2 q3:Bool} {o x y z:O} {os outs:List O} {is:List Nat} {ms:List Bool} {F:FC} {S T U:SF} {V W:TF} {b c:Bool} {e:Str}
theorem zhS {L' U':Rho->Re (Option Int)} {l u:Option Int} (h:A ρ=.ok ra ρ1 q1) (hl:L' ρ1=.ok l ρ2 q2) (hu:U' ρ2=.ok u ρ3 q3) (p:pok ρ1 (q2&&(q3&&true)) ra=true) (hv:vn ρ3 ra=some o) (hf:fSl o l u=some z) :
  eSl A L' U' ρ=.ok (.own z) ρ3 (q1&&(q2&&(q3&&true))):=by
 unfold eSl;rw[h];dsimp only[Re.bind];rw[zb8 hl (zb8 hu rfl)];dsimp only;rw[if_pos p,hv];dsimp only;rw[hf]
theorem zky {i:Int} (h:eSc decI A ρ=.ok i ρ1 q):zeW A ρ=.ok (some i) ρ1 (q&&true):=zb8 h rfl
end
end L2
namespace My
open PySem L2
namespace F43
theorem zj5 {A B C:EF} {p q:Int->Int->Bool} {ρ ρ1 ρ2 ρ3:Rho} {a b c:Int} {q1 q2 q3:Bool} (h:eSc decI A ρ=.ok a ρ1 q1) (k:eSc decI B ρ1=.ok b ρ2 q2) (hp:p a b=true) (l:eSc decI C ρ2=.ok c ρ3 q3) (hq:q b c=true):zdA A B C p q ρ=.ok true ρ3 (q1&&(q2&&(q3&&true))):=by
 unfold zdA;refine zb8 h (zb8 k ?_);rw[if_pos hp];refine zb8 l ?_;rw[hq];rfl
section
variable {N M R W x y:PyData} {c d a0 b0 e0 f0 L k:Int} {P0 P1 P2 P3 os xs ys ws t1 r1 t2 r2 po:List O} {la:List PyData} {fo t0 l0:O} {q1 q2:Bool} {s:Str} {Rs:Rt}
end
section
variable {N M W x y Wd:PyData} {c d a0 b0 e0 f0 L k A B:Int} {P3 ws:List O} {w15 w14 t0:O} {q:Bool} {ks:List Int}
end
end F43
end My
noncomputable section
namespace My
open PySem L2
def zdp:SF:=(sSeq (sIf (gOr (tst (e2 (zab 0) (eC .none) (fIs false))) (gAnd (tst (e2 (zab 1) (eC .none) (fIs true))) (tst (e2 (zab 1) (zab 0) fLt)))) (sRet mov (zab 1)) sNil)
  (sRet mov (zab 0)))
def za4:FC:=runF [false,false] 2 zdp
end My
end
namespace My
open PySem L2
namespace F32
def IsO (S:Int->Prop):Option Int->Prop
 | none=>∀L,¬S L
 | some d=>S d/\∀L,S L->d<=L
theorem IsO.eq {S S':Int->Prop} {a b:Option Int} (h:IsO S a) (g:IsO S' b) (h1:∀L,S L->∃M,M<=L/\S' M) (h2:∀L,S' L->∃M,M<=L/\S M):a=b:=by
 cases a with
 | none=>
  cases b with
  | none=>rfl
  | some e=>obtain ⟨M,_,z⟩:=h2 e g.1;exact absurd z (h M)
 | some d=>
  cases b with
  | none=>obtain ⟨M,_,z⟩:=h1 d h.1;exact absurd z (g M)
  | some e=>
   obtain ⟨M,l,z⟩:=h1 d h.1;obtain ⟨N,l',z'⟩:=h2 e g.1
   have:=g.2 M z
   have:=h.2 N z'
   exact congrArg some (by omega)
theorem IsO.add {S:Int->Prop} {a:Option Int} (h:IsO S a) (l:Int):IsO (fun L=>∃A,S A/\L=A+l) (a.map (·+l)):=by
 cases a with
 | none=>
  rintro L ⟨A,u,e⟩
  exact h A u
 | some d=>
  refine ⟨⟨d,h.1,rfl⟩, ?_⟩
  rintro L ⟨A,u,rfl⟩
  have:=h.2 A u
  show d+l<=A+l
  omega
def lO (a b:Option Int):Option Int:=match a,b with
 | none,b=>b
 | some d,none=>some d
 | some d,some e=>if e < d then some e else some d
theorem IsO.or {S S':Int->Prop} {a b:Option Int} (h:IsO S a) (g:IsO S' b):IsO (fun L=>S L\/S' L) (lO a b):=by
 cases a with
 | none=>
  cases b with
  | none=>exact fun L z=>z.elim (h L) (g L)
  | some e=>exact ⟨.inr g.1,fun L z=>z.elim (fun z=>absurd z (h L)) (g.2 L)⟩
 | some d=>
  cases b with
  | none=>exact ⟨.inl h.1,fun L z=>z.elim (h.2 L) (fun z=>absurd z (g L))⟩
  | some e=>
   show IsO _ (if e < d then some e else some d)
   split
   .refine ⟨.inr g.1,fun L z=>z.elim (fun z=>?_) (g.2 L)⟩
    have:=h.2 L z
    omega
   .refine ⟨.inl h.1,fun L z=>z.elim (h.2 L) fun z=>?_⟩
    have:=g.2 L z
    omega
section
variable {n p q:Int} {rs:List Road} {m:Int->Int}
end
section
variable {n k b:Int} {rs:List Road} {r:Road}
end
section
variable {n k b p q:Int} {rs:List Road} {r:Road}
end
theorem zjs (a b:Option Int):za4 [.d (oD a),.d (oD b)]=.ok (.d (oD (lO a b))) []:=by
 cases a with
 | none=>exact zdn rfl (L2.zgD (if_t (or_t (za0 (zaD rfl rfl rfl rfl rfl rfl) rfl)) (zbX rfl rfl))) rfl
 | some d=>
  cases b with
  | none=>exact zdn rfl (L2.zas (if_f (or_f (za0 (zaD rfl rfl rfl rfl rfl rfl) rfl) (zb8 (q2:=true) (za0 (b:=false) (zaD rfl rfl rfl rfl rfl rfl) rfl) rfl)) rfl) (zbX rfl rfl)) rfl
  | some e=>
   have t:(tst (e2 (zab 1) (zab 0) fLt)) [.d (oD (some d)),.d (oD (some e))]=.ok (decide (e < d)) [.d (oD (some d)),.d (oD (some e))] true:=rfl
   by_cases z:e < d
   .rw[decide_eq_true z] at t
    have:lO (some d) (some e)=some e:=if_pos z
    rw[this];exact zdn rfl (L2.zgD (if_t (or_f (za0 (zaD rfl rfl rfl rfl rfl rfl) rfl) (zg5 (za0 (zaD rfl rfl rfl rfl rfl rfl) rfl) t)) (zbX rfl rfl))) rfl
   .rw[decide_eq_false z] at t
    have:lO (some d) (some e)=some d:=if_neg z
    rw[this];exact zdn rfl (L2.zas (if_f (or_f (za0 (zaD rfl rfl rfl rfl rfl rfl) rfl) (zg5 (za0 (zaD rfl rfl rfl rfl rfl rfl) rfl) t)) rfl) (zbX rfl rfl)) rfl
section
variable {N:PyData}
end
section
variable {m on off:Option Int}
end
section
variable {N D1 D2 D3 D4:PyData} {p q k s g l:Int} {m on off c1 c2 hm:Option Int} {o1s:List O} {o2 o3 o4 x:O} {R:PyData} {ts ns fs:List O} {u v:Bool} {Rt':Rt}
end
section
variable {N:PyData} {p q k s g l v:Int} {m on off c1 c2:Option Int} {x t0:O} {f2 f3:List O}
end
section
variable {n p q k:Int} {rs:List Road} {r:Road}
end
theorem zjY {A:EF} {ρ ρ1:Rho} {q:Bool} {o:O} {ds:List PyData} {mk:List PyData->List O} (h:A ρ=.ok (.own o) ρ1 q) (f:fz o=some (.list ds)):srcM false mk A ρ=.ok ((mk ds,none),true) ρ1 q:=by
 unfold srcM;rw[h];simp[Re.bind,zej,cov,coe,f]
section
variable {N LD GD DD D2:PyData} {n p q c z:Int} {P0 P1 P2 hs ro go det due ts ns ld gd ad:List O} {la:List PyData} {u11 u12:O} {q1 q2 q3:Bool}
end
section
variable {ns:List Int} {N P:PyData} {cell a b k h:Int} {w2 w3 z9:O} {ps ts us:List O} {x y:Bool}
end
section
variable {ns:List Int} {N P:PyData} {cell a b k lv:Int} {z7 z8 z9:O} {P0 P1 ps ts us ts' us':List O} {x y:Bool} {bp len:Int} {la:List PyData}
end
end F32
end My
namespace L2
open PySem PySem.Spec PySem.Calls PySem.W PyProof.Rows
def ItV (a:Addr) (n:Nat):It:=
 ⟨fun i H=>∃xs x,H a=some (.lst xs)/\xs.length=n/\xs.reverse[i]? = some x,fun i H x H'=>H'=H/\∀xs,H a=some (.lst xs)->xs.length=n->xs.reverse[i]? = some x,fun i H=>i=n⟩
theorem zmJ {P:Program} {w:World} {K:PySem.W.Frag} {tg:Expr} (a it:Addr) (n:Nat):Turn P w K tg (ItV a n) [it] it (fun i h=>h.IsRevIter it a ((n:Int) - 1 - i)) where
 mem:=by simp
 obj:=fun i h st b hb=>by
  have e:b=it:=by simpa using hb
  subst e;obtain ⟨o,e,c,d⟩:=st;exact ⟨o,e,fun v z=>by rw[d] at z;cases z⟩
 keep:=fun i h h' st k=>st.at fun o e=>k it (by simp) o e
 item:=by
  intro X hP hw hK hc i pins s σ H E I hf st hg;subst hP hw hK;obtain ⟨xs,x,hq,hn,hx⟩:=hg;obtain ⟨its,rv,p,hz⟩:=I.list (SqL.of hq);have hi:i < xs.length:=by
   have:=(List.getElem?_eq_some_iff.mp hx).1
   rwa [List.length_reverse] at this
  have hx':xs[n - 1 - i]? = some x:=by
   rw[List.getElem?_reverse hi,hn] at hx;exact hx
  obtain ⟨u,hu,ru⟩:=rv.get hx';obtain ⟨f0,f1,f2,f3,f4,f5⟩:=hf it (by simp);have ec:(n:Int) - 1 - i=((n - 1 - i:Nat):Int):=by omega
  rw[ec] at st;refine wpAny_pyNext_rev_item st p.isList (x:=u) (by simpa using hu) fun h' st' sb=>?_
  have I1:Inv X pins σ H { s with heap:=h' }:=I.turned (t':=s.toks) (fun b o hb e=>(sb.2 b hb).trans e) f0 f1 f3 f4 f5;rw[show ((n - 1 - i:Nat):Int) - 1=(n:Int) - 1 - ((i+1:Nat):Int) by omega] at st';obtain ⟨o,e,c,d⟩:=id st';exact ⟨u,rfl,zjQ (s:={ s with heap:=h' }) e c d (by decide) ⟨x,H,I1,ru,⟨rfl,fun ys hy _=>by rw[hq] at hy;cases hy;exact hx⟩,st',fun b hb=>(hf b hb).1⟩⟩
 done:=by
  intro X hP hw hK hc i pins s σ H E I hf st hg;subst hP hw hK;have hg:i=n:=hg;subst hg;obtain ⟨f0,f1,f2,f3,f4,f5⟩:=hf it (by simp);rw[show (i:Int) - 1 - i=-1 by omega] at st;exact wpAny_pyNext_rev_end (I.ok.hd hc) st fun h' eb=>⟨rfl,I.turned (t':=s.toks) (fun b o hb e=>eb b o hb e) f0 f1 f3 f4 f5⟩
 self:=fun _ _ _ _ _ st h=>wpAny_pyIter_revIter st h
def iV (ta:TA):TI:=fun σ H R=>ta σ H fun vs H1=>∃l xs,vs=[.ref l]/\H1 l=some (.lst xs)/\R (ItV l xs.length) H1
theorem pi_V {X:Cx} {tg a:Expr} {ta:TA} {p pos:Pos} (hg:Gl X "reversed") (hm:X.mg "reversed"=none) (ha:PA X [a] ta) (hs:starEach [a] X.env=[(false,eval a X.env)]:=by rfl) :
  PI X tg (.Call (.Name "reversed" p) [a] [] pos) (iV ta):=by
 intro pins s σ H R I h;refine Call_ (zfx I hg hm boot_reversed (PyProof.Rows.callWith_type1 (thn (ha pos pins s σ H _ I h) fun us s1 ⟨vs,H1,I1,r1,q1⟩=>?_) hs rfl));obtain ⟨l,xs,e,hq,q⟩:=q1;subst e;obtain ⟨u,rfl,ru⟩:=zhb r1;cases ru;obtain ⟨its,rv,pl,hz⟩:=I1.list (SqL.of hq);have hl:=rv.length;refine call_reversed_list pl.isList ?_;have st:Heap.IsRevIter (s1.heap.push (revObj l (its.toArray.size - 1))) s1.heap.objs.size l ((xs.length:Int) - 1 - ((0:Nat):Int)):=by
  refine ⟨_,Heap.get?_push_size _ rfl,rfl, ?_⟩
  show Data.fields #[Value.ref l,rawInt _]=_
  rw[List.size_toArray,<-hl,show (xs.length:Int) - 1 - ((0:Nat):Int)=xs.length - 1 by omega]
 refine wpAny_pyIter_revIter (s:={ s1 with heap:=s1.heap.push (revObj l (its.toArray.size - 1)) }) st ?_;refine ⟨s1.heap.objs.size,[s1.heap.objs.size],_,ItV l xs.length,H1,rfl,I1.kept (t':=s1.toks) (fun b o e=>Heap.get?_push_of_some _ e),zmJ l _ _,st,fun b hb=>?_,q⟩;obtain rfl:b=s1.heap.objs.size:=by simpa using hb
 exact I1.fpOk (Nat.le_refl _) (I1.hok.fresh (Nat.le_refl _))
def itV (A:EF):Rho->Re (List O):=fun ρ=>(A ρ).bind fun r ρ1 q=>match coe ρ1 r with
 | some (o,ρ2)=>match fz o with
  | some (.list ds)=>.ok (ds.reverse.map O.d) ρ2 q
  | _=>.bad
 | none=>.bad
theorem Dns.getRev {H:Hp} {W:Addr->Prop} {xs:List V} {ds:List PyData} (h:Dns H W xs ds) {i:Nat} {x:V} (hx:xs.reverse[i]? = some x):∃d,ds.reverse[i]? = some d/\Dn H W x d:=by
 have hi:i < xs.length:=by
  have:=(List.getElem?_eq_some_iff.mp hx).1
  rwa [List.length_reverse] at this
 have hl:=h.length;rw[List.getElem?_reverse hi] at hx;obtain ⟨d,e1,e2⟩:=h.getV hx;exact ⟨d,by rw[List.getElem?_reverse (by omega),<-hl];exact e1,e2⟩
theorem zlY {X:Cx} {E:XK} {L:List Nat} {tg e:Expr} {body:List Stmt} {A:EF} {G:GF} {S:SF} {p cpos pos:Pos} (hp:PassesOwn (model X.prog X.w) X.A X.env X.xe) (hc:X.calm=true) (hgl:Gl X "reversed") (hm:X.mg "reversed"=none) (hi:VR X E e A) (hg:VG X L tg G) (hb:VSs X E L body S)
  (hst:starEach [e] X.env=[(false,eval e X.env)]:=by rfl)
  (hs:∀x,foldedSetIterable (.Call (.Name "reversed" p) [e] [] cpos) X.env x=pure x:=by intro _;rfl):VS X E L (.For tg (.Call (.Name "reversed" p) [e] [] cpos) body [] pos) (sFor (itV A) G S):=(zhD hp hc (pi_V hgl hm (zb7 hi zdo hst) hst) hg hb hs).imp fun D σ H h=>by
 obtain ⟨W,ρ,f,ok,q⟩:=h.aft;refine zir (mk:=fun ds=>ds.reverse.map O.d) (T:=fun items=>forF G S items) ok q fun a xs ds H' W' f' ρ' s m ha na dn q=>⟨a,xs,rfl,ha, ?_⟩
 have hl:=dn.length;refine zeJ (items:=ds.reverse.map O.d) (.next s m fun _ z=>z) (fun i H2 W2 ⟨_,mm⟩ hi=>?_) (fun H2 W2 ⟨_,mm⟩=>?_) (fun i H2 W2 x H3 ⟨_,mm⟩ dd hi y=>?_) (q.step m .refl)
 .rw[List.length_map,List.length_reverse] at hi;have hx:i < xs.reverse.length:=by rw[List.length_reverse];omega
  exact ⟨xs,xs.reverse[i],(mm.d a _ ha na).1,rfl,List.getElem?_eq_getElem hx⟩
 .show (ds.reverse.map O.d).length=xs.length
  rw[List.length_map,List.length_reverse,hl]
 .obtain ⟨rfl,y⟩:=y;have hx:=y xs (mm.d a _ ha na).1 rfl;obtain ⟨d,e1,e2⟩:=Dns.getRev dn hx;exact ⟨.refl,.d d,by rw[List.getElem?_map,e1];rfl,.d (e2.on mm.d)⟩
end L2
noncomputable section
namespace My
open PySem L2
def zc6:EF:=(eC .none)
def zc3:EF:=(eC .none)
def zb4:SF:=(sSub coe (zaq [false,false] za4 (zae (eIx (zab 5) (zab 7)) (zae (eFz (zaq [false] zaU (zae (zaL coes .l (zae (eIx (zab 3) (zab 6)) (zae (zab 8) aNil))) aNil))) aNil))) (zab 5) (zab 7))
def zb6:SF:=(sSeq (sAsg coe (eLC (itR1 (eIx (zab 0) (eC (.int 0)))) [none] (gtN 0) (gRet true) zc3) (gtN 5))
  (sSeq (zep (srcM false (fun ds=>ds.map O.d) (eIx (zab 0) (eC (.int 1)))) (gtT (zam (gtN 6) (zam (gtN 7) (zam (gtN 8) zbD)))) zb4)
  (sAsg coe (zab 5) (gtN 3))))
def zcK:SF:=(sSeq (sAsg coe (eLC (itR1 (eIx (zab 0) (eC (.int 0)))) [none] (gtN 0) (gRet true) zc6) (gtN 3))
  (sSeq (sSub coe (eC (.int 0)) (zab 3) (zab 1))
  (sSeq (sFor (itR1 (zab 2)) (gtN 4) zb6)
  (sRet mov (zab 3)))))
def zb2:FC:=runF [false,false,false] 9 zcK
def zcn:EF:=(eC .none)
def zba:EF:=(zaL coes mkT (zae (eIx (zab 0) (eC (.int 1))) (zae (e2 (zab 1) (eIx (zab 0) (eC (.int 2))) fAdd) aNil)))
def za6:TF:=(tst (e2 (eIx (zab 0) (eC (.int 0))) (zab 2) (fEq false)))
def zbA:SF:=(sAsg coe (e2 (zab 6) (eLS (srcM true (fun ds=>ds.map O.d) (eIx (zab 0) (eC (.int 1)))) [none,some 8,some 7] (gtN 0) za6 zba) fAdd) (gtN 6))
def zbv:SF:=(sSeq (sAsg coe (zaL coes .l aNil) (gtN 6))
  (sSeq (zep (srcM false (fun ds=>ds.map O.d) (zab 4)) (gtT (zam (gtN 7) (zam (gtN 8) zbD))) zbA)
  (sAsg coe (zab 6) (gtN 4))))
def zbz:SF:=(sSub coe (zaq [false,false] za4 (zae (eIx (zab 3) (zab 7)) (zae (zab 8) aNil))) (zab 3) (zab 7))
def zbV:SF:=(sSeq (sAsg coe (eLC (itR1 (eIx (zab 0) (eC (.int 0)))) [none] (gtN 0) (gRet true) zcn) (gtN 3))
  (sSeq (sAsg coe (zaL coes .l (zae (zaL coes mkT (zae (zab 1) (zae (eC (.int 0)) aNil))) aNil)) (gtN 4))
  (sSeq (sFor (itR1 (zab 2)) (gtN 5) zbv)
  (sSeq (zep (srcM false (fun ds=>ds.map O.d) (zab 4)) (gtT (zam (gtN 7) (zam (gtN 8) zbD))) zbz)
  (sRet mov (zab 3))))))
def zaZ:FC:=runF [false,false,false] 9 zbV
def zbt:SF:=(sSeq (sAsg coe (zaq [false] zaU (zae (zaL coes .l (zae (eIx (zab 1) (zab 5)) (zae (zab 7) aNil))) aNil)) (gtN 8))
  (sIf (gAnd (tst (e2 (zab 8) (eC .none) (fIs true))) (gOr (tst (e2 (eIx (zab 2) (zab 6)) (eC .none) (fIs false))) (tst (e2 (zab 8) (eIx (zab 2) (zab 6)) fLt)))) (sSeq (sSub coe (zab 8) (zab 2) (zab 6))
  (sSub coe (zab 4) (zab 3) (zab 6))) sNil))
def zcu:SF:=(sSeq (sAsg coe (e2 (zaL coes .l (zae (eC .none) aNil)) (eB (zae (zab 1) aNil) (f1 fLen)) fMul) (gtN 2))
  (sSeq (sAsg coe (e2 (zaL coes .l (zae (eC .none) aNil)) (eB (zae (zab 1) aNil) (f1 fLen)) fMul) (gtN 3))
  (sSeq (sFor (itE (zab 0)) (gtT (zam (gtN 4) (zam (gtT (zam (gtN 5) (zam (gtN 6) (zam (gtN 7) zbD)))) zbD))) zbt)
  (sRet mov (zaL movs mkT (zae (zab 2) (zae (zab 3) aNil)))))))
def zbe:FC:=runF [false,false] 9 zcu
def zaN:SF:=(sSeq (zcW (eApp (zab 3) (eIx (zab 5) (zab 4))))
  (sAsg coe (eIx (eIx (zab 0) (eIx (zab 5) (zab 4))) (eC (.int 0))) (gtN 4)))
def zcI:SF:=(sSeq (sAsg coe (zaL coes .l aNil) (gtN 3))
  (sSeq (sAsg coe (zab 2) (gtN 4))
  (sSeq (sFor (itV (zab 1)) (gtN 5) zaN)
  (sRet mov (e1 (zab 3) fRev)))))
def zbl:FC:=runF [false,false,false] 6 zcI
def zbq:EF:=(eIf (tst (e2 (zab 0) (zab 1) (fEq false))) (eC (.int 0)) (eC .none))
def zcq:SF:=(sSeq (sAsg coe (zaq [false,false] zbe (zae (zab 5) (zae (zab 6) aNil))) (gtT (zam (gtN 6) (zam (gtN 9) zbD))))
  (zcW (eApp (zab 7) (zab 9))))
def zc1:SF:=(sSeq (zcW (zaq [false,false,false] za9 (zae (zab 0) (zae (zab 1) (zae (zab 2) aNil)))))
  (sSeq (sIf (gNot (zdA (eC (.int 0)) (zab 3) (eC (.int (60))) (fun i j=>decide (i<=j)) (fun i j=>decide (i<=j)))) sBad sNil)
  (sSeq (zcW (zaq [false] zbK (zae (zab 0) aNil)))
  (sSeq (sAsg coe (zab 0) (gtT (zam (gtN 4) (zam (gtN 5) zbD))))
  (sSeq (sAsg coe (eLC (itR1 (zab 4)) [none,some 1] (gtN 0) (gRet true) zbq) (gtN 6))
  (sSeq (sAsg coe (zaL coes .l aNil) (gtN 7))
  (sSeq (sFor (itR1 (zab 3)) (gtN 8) zcq)
  (sSeq (sIf (tst (e2 (eIx (zab 6) (zab 2)) (eC .none) (fIs false))) (sRet mov (eC .none)) sNil)
  (sRet coe (zaL coes mkT (zae (eIx (zab 6) (zab 2)) (zae (zaq [false,false,false] zbl (zae (zab 5) (zae (zab 7) (zae (zab 2) aNil)))) aNil))))))))))))
def zaG:FC:=runF [false,false,false,false] 10 zc1
def za5:SF:=(sSeq (sAsg coe (zaq [false] zaM (zae (zab 0) aNil)) (gtN 5))
  (sSeq (sAsg coe (zaq [false,false,false,false] zaG (zae (zab 0) (zae (zab 1) (zae (zab 2) (zae (zab 3) aNil))))) (gtN 6))
  (sSeq (sIf (tst (e2 (zab 4) (eC .none) (fIs false))) (sRet mov (eAnd (e2 (zab 6) (eC .none) (fIs false)) (e2 (zab 0) (zab 5) (fEq false)))) sNil)
  (sSeq (sIf (gOr (gNot (eSc trV (e1 (zab 6) (fIsi "tuple")))) (gOr (tst (e2 (eB (zae (zab 6) aNil) (f1 fLen)) (eC (.int 2)) (fEq true))) (gOr (gNot (eSc trV (zaq [false] zaQ (zae (eIx (zab 6) (eC (.int 0))) aNil)))) (gNot (eSc trV (zaq [false] zaW (zae (eIx (zab 6) (eC (.int 1))) aNil))))))) (sRet mov (eC (.bool false))) sNil)
  (sSeq (sAsg mov (zab 6) (gtT (zam (gtN 7) (zam (gtN 8) zbD))))
  (sSeq (sIf (gOr (tst (e2 (zab 7) (zab 4) (fEq true))) (gOr (tst (e2 (eB (zae (zab 8) aNil) (f1 fLen)) (zab 3) (fEq true))) (gOr (gNot (eSc trV (zaq [false,false,false,false] zaV (zae (zab 0) (zae (zab 1) (zae (zab 2) (zae (zab 8) aNil))))))) (tst (e2 (zaq [false,false] zbh (zae (zab 0) (zae (zab 8) aNil))) (zab 4) (fEq true)))))) (sRet mov (eC (.bool false))) sNil)
  (sSeq (sAsg coe (eB (zae (zab 8) aNil) (f1 zeF)) (gtN 9))
  (sSeq (zcW (eApp (zab 8) (eC (.int 0))))
  (sRet coe (eAnd (e2 (zaq [false,false,false,false] zaG (zae (zab 0) (zae (zab 1) (zae (zab 2) (zae (zab 3) aNil))))) (zaL coes mkT (zae (zab 4) (zae (zab 9) aNil))) (fEq false)) (e2 (zab 0) (zab 5) (fEq false))))))))))))
def zbQ:FC:=runF [false,false,false,false,false] 10 za5
def zcl:EF:=(eIx (zab 0) (eC (.int 0)))
def zcU:EF:=(eIx (zab 0) (eC (.int 1)))
def zdu:SF:=(sIf (gNot (eSc trV (zaq [false,false,false,false,false] zbQ (zae (zab 3) (zae (zab 5) (zae (zab 9) (zae (zab 7) (zae (eIx (zab 8) (zab 9)) aNil)))))))) (sRet mov (eC (.bool false))) sNil)
def zdt:SF:=(sSeq (sAsg coe (zaq [false,false,false] zb2 (zae (zab 3) (zae (zab 5) (zae (zab 7) aNil)))) (gtN 8))
  (sSeq (sIf (gAnd (tst (e2 (zab 7) (eC (.int 3)) fLt)) (tst (e2 (zab 8) (zaq [false,false,false] zaZ (zae (zab 3) (zae (zab 5) (zae (zab 7) aNil)))) (fEq true)))) (sRet mov (eC (.bool false))) sNil)
  (zep (srcM false (fun ds=>ds.map O.d) (zab 6)) (gtN 9) zdu)))
def zcS:SF:=(sSeq (sAsg coe (e2 (zaL coes .l (zae (eFz (zaq [true,false] zag (zae (zab 2) (zae (eIx (zab 3) (eC (.int 0))) aNil)))) (zae (zab 5) aNil))) (eLS (srcM true (fun ds=>ds.map O.d) (eSl (eIx (zab 3) (eC (.int 1))) oNo (zeW (eC (.int 2))))) [none] (gtN 0) (gRet true) zcU) fAdd) (gtN 6))
  (zep (srcM false (fun ds=>ds.map O.d) (zaL coes .l (zae (eC (.int 0)) (zae (eC (.int 1)) (zae (eC (.int 2)) (zae (eC (.int 3)) (zae (eC (.int 4)) (zae (eIx (zaL coes .l (zae (zaq [true,false] zag (zae (zab 2) (zae (eC (.int 13)) aNil))) (zae (e2 (eC (.int 13)) (zaq [true,false] zag (zae (zab 2) (zae (eC (.int 47)) aNil))) fAdd) aNil))) (zaq [true,false] zag (zae (zab 2) (zae (eC (.int 2)) aNil)))) (zae (eC (.int 60)) aNil))))))))) (gtN 7) zdt))
def zcV:SF:=(sSeq (sAsg coe (zaq [false,false] zbr (zae (zab 0) (zae (zab 1) aNil))) (gtN 2))
  (sSeq (sAsg coe (zaq [true,false,false] zbj (zae (zab 2) (zae (eC (.int 7)) (zae (eC (.int 10)) aNil)))) (gtN 3))
  (sSeq (sIf (tst (e2 (zaq [true,false] zag (zae (zab 2) (zae (eC (.int 8)) aNil))) (eC (.int 7)) (fEq false))) (sAsg coe (zaq [true] zby (zae (zab 2) aNil)) (gtN 3)) sNil)
  (sSeq (sAsg coe (e2 (zaL coes .l (zae (eFz (zaq [true,false] zag (zae (zab 2) (zae (eIx (zab 3) (eC (.int 0))) aNil)))) aNil)) (eLS (srcM true (fun ds=>ds.map O.d) (eSl (eIx (zab 3) (eC (.int 1))) oNo (zeW (eC (.int 2))))) [none] (gtN 0) (gRet true) zcl) fAdd) (gtN 4))
  (zep (srcM false (fun ds=>ds.map O.d) (zab 4)) (gtN 5) zcS)))))
def zei:SF:=(sSeq (sFor (itR1 (eC (.int 3))) (gtN 1) zcV)
  (sRet mov (eC (.bool true))))
end My
end
namespace My
open PySem L2
namespace F34
open F32 (IsO lO)
inductive WkN (rs:List Road):Nat->Int->Int->Int->Prop where
 | nil (p:Int):WkN rs 0 p p 0
 | snoc {k:Nat} {p L:Int} {r:Road}:WkN rs k p r.1 L->r∈rs->WkN rs (k+1) p r.2.1 (L+r.2.2)
def get (v:List (Option Int)) (i:Int):Option Int:=(v[i.toNat]?).getD none
def zec (far more:List (Option Int)) (r:Road):List (Option Int):=more.set r.2.1.toNat (lO (get more r.2.1) ((get far r.1).map (·+r.2.2)))
def zcc (n:Nat) (rs:List Road) (far:List (Option Int)):List (Option Int):=rs.foldl (zec far) (List.replicate n none)
def start (n:Nat) (one:Int):List (Option Int):=(List.replicate n none).set one.toNat (some 0)
def gone (n:Nat) (rs:List Road) (one:Int):Nat->List (Option Int)
 | 0=>start n one
 | k+1=>zcc n rs (gone n rs one k)
theorem zd9 (far more:List (Option Int)) (r:Road):(zec far more r).length=more.length:=by simp[zec]
theorem zhO (far:List (Option Int)):∀(rs:List Road) (more:List (Option Int)),(rs.foldl (zec far) more).length=more.length
 | [],_=>rfl
 | r::rs,more=>by rw[List.foldl_cons,zhO far rs,zd9]
theorem zdK (n:Nat) (rs:List Road) (one:Int):∀k,(gone n rs one k).length=n
 | 0=>by simp[gone,start]
 | k+1=>by simp[gone,zcc,zhO]
theorem zev {v:List (Option Int)} {i j:Int} {x:Option Int} (hi:0<=i/\i < v.length) (hj:0<=j):get (v.set i.toNat x) j=if j=i then x else get v j:=by
 unfold get
 by_cases h:j=i
 .subst h;rw[if_pos rfl,List.getElem?_set_self (by omega),Option.getD_some]
 .rw[if_neg h,List.getElem?_set_ne (by omega)]
theorem ze8 (n:Nat) (i:Int):get (List.replicate n none) i=none:=by
 unfold get;rw[List.getElem?_replicate];split<;>rfl
theorem zkr {n:Nat} {rs:List Road} {one v:Int} (h1:0<=one/\one < n) (hv:0<=v/\v < n):IsO (WkN rs 0 one v) (get (start n one) v):=by
 unfold start;rw[zev (by simp;omega) hv.1,ze8];split
 .rename_i h;subst h;refine ⟨.nil _,fun L w=>?_⟩;cases w;omega
 .rename_i h;intro L w;cases w;exact h rfl
theorem zjd {S S':Int->Prop} {a:Option Int} (h:IsO S a) (e:∀L,S L↔S' L):IsO S' a:=by
 have:S=S':=funext fun L=>propext (e L)
 exact this ▸ h
theorem zjC {n k:Nat} {rs:List Road} {one:Int} {far:List (Option Int)} (hf:∀v,0<=v/\v < (n:Int)->IsO (WkN rs k one v) (get far v)):∀(ys xs:List Road) (more:List (Option Int)),(∀r∈ys,(0<=r.1/\r.1 < (n:Int))/\0<=r.2.1/\r.2.1 < (n:Int))->more.length=n->
  (∀v,0<=v/\v < (n:Int)->IsO (fun L=>∃r∈xs,r.2.1=v/\∃M,WkN rs k one r.1 M/\L=M+r.2.2) (get more v))->
  ∀v,0<=v/\v < (n:Int)->IsO (fun L=>∃r∈xs++ys,r.2.1=v/\∃M,WkN rs k one r.1 M/\L=M+r.2.2) (get (ys.foldl (zec far) more) v)
 | [],xs,more,_,_,h,v,hv=>by
  rw[List.append_nil];exact h v hv
 | y::ys,xs,more,hi,hl,h,v,hv=>by
  obtain ⟨y1,y2⟩:=hi y List.mem_cons_self;have e:xs++y::ys=(xs++[y])++ys:=by simp
  rw[e,List.foldl_cons];refine zjC hf ys (xs++[y]) (zec far more y) (fun r hr=>hi r (List.mem_cons_of_mem _ hr)) (by rw[zd9];exact hl) (fun u hu=>?_) v hv;unfold zec;rw[zev (by rw[hl];omega) hu.1]
  by_cases c:u=y.2.1
  .rw[if_pos c];subst c;refine zjd ((h _ y2).or ((hf _ y1).add y.2.2)) fun L=>⟨?_, ?_⟩
   .rintro (⟨r,hr,a,b⟩ | ⟨A,w,a⟩)
    .exact ⟨r,List.mem_append_left _ hr,a,b⟩
    .exact ⟨y,List.mem_append_right _ (List.mem_singleton_self _),rfl,A,w,a⟩
   .rintro ⟨r,hr,a,M,w,b⟩
    rcases List.mem_append.mp hr with hr | hr
    .exact .inl ⟨r,hr,a,M,w,b⟩
    .obtain rfl:=List.mem_singleton.mp hr;exact .inr ⟨M,w,b⟩
  .rw[if_neg c];refine zjd (h u hu) fun L=>⟨fun ⟨r,hr,z⟩=>⟨r,List.mem_append_left _ hr,z⟩, ?_⟩
   rintro ⟨r,hr,a,b⟩
   rcases List.mem_append.mp hr with hr | hr
   .exact ⟨r,hr,a,b⟩
   .obtain rfl:=List.mem_singleton.mp hr;exact absurd a.symm c
theorem zjt {n:Int} {rs:List Road} {one:Int} (ok:zbM n rs) (h1:0<=one/\one < n):∀(k:Nat) (v:Int),0<=v/\v < n->IsO (WkN rs k one v) (get (gone n.toNat rs one k) v)
 | 0,v,hv=>zkr (by omega) (by omega)
 | k+1,v,hv=>by
  have n0:=ok.n0
  have:=zjC (n:=n.toNat) (k:=k) (rs:=rs) (one:=one) (far:=gone n.toNat rs one k) (fun u hu=>zjt ok h1 k u (by omega)) rs [] (List.replicate n.toNat none) (fun r hr=>by
   obtain ⟨a,b,_⟩:=ok.rd r hr;exact ⟨by omega,by omega⟩) (by simp) (fun u hu=>by
   rw[ze8]
   rintro L ⟨r,hr,_⟩
   cases hr) v (by omega)
  refine zjd this fun L=>⟨?_,fun w=>?_⟩
  .rintro ⟨r,hr,rfl,M,w,rfl⟩
   exact .snoc w hr
  .cases w with
   | snoc w hr=>exact ⟨_,hr,rfl,_,w,rfl⟩
def zdc (rs:List Road) (w:Int×Int):List (Int×Int):=(rs.filter fun r=>decide (r.1=w.1)).map fun r=>(r.2.1,w.2+r.2.2)
def zed (rs:List Road) (one:Int):Nat->List (Int×Int)
 | 0=>[(one,0)]
 | k+1=>(zed rs one k).flatMap (zdc rs)
theorem zdO {rs:List Road} {one:Int}:∀(k:Nat) (v L:Int),(v,L)∈zed rs one k↔WkN rs k one v L
 | 0,v,L=>by
  constructor
  .intro h
   have:=List.mem_singleton.mp h
   cases this;exact .nil _
  .intro w;cases w;exact List.mem_singleton_self _
 | k+1,v,L=>by
  rw[zed,List.mem_flatMap];constructor
  .rintro ⟨⟨p,M⟩,hm,h⟩
   obtain ⟨r,hr,e⟩:=List.mem_map.mp h;obtain ⟨hr,hp⟩:=List.mem_filter.mp hr;have hp:r.1=p:=of_decide_eq_true hp;cases e;exact .snoc (hp ▸ (zdO k p M).mp hm) hr
  .intro w
   cases w with
   | @snoc _ _ M r w hr=>exact ⟨(r.1,M),(zdO k _ _).mpr w,List.mem_map.mpr ⟨r,List.mem_filter.mpr ⟨hr,decide_eq_true rfl⟩,rfl⟩⟩
theorem zhx (rs:List Road) (one:Int):∀k,(zed rs one k).length<=rs.length ^ k
 | 0=>by simp[zed]
 | k+1=>by
  have h:=zhx rs one k;have m1:∀w,(zdc rs w).length<=rs.length:=fun w=>by
   unfold zdc;rw[List.length_map];exact List.length_filter_le _ _
  have:∀ws:List (Int×Int),(ws.flatMap (zdc rs)).length<=ws.length * rs.length:=by
   intro ws
   induction ws with
   | nil=>simp
   | cons w ws ih=>
    rw[List.flatMap_cons,List.length_append,List.length_cons,Nat.add_mul,Nat.one_mul]
    have:=m1 w
    omega
  rw[zed,Nat.pow_succ];exact Nat.le_trans (this _) (Nat.mul_le_mul_right _ h)
def zdq (f:List (Option Int)) (w:Int×Int):List (Option Int):=f.set w.1.toNat (lO (get f w.1) (some w.2))
theorem zhC {n:Nat}:∀(ys xs:List (Int×Int)) (f:List (Option Int)),(∀w∈ys,0<=w.1/\w.1 < (n:Int))->f.length=n->(∀v,0<=v/\v < (n:Int)->IsO (fun L=>(v,L)∈xs) (get f v))->
  ∀v,0<=v/\v < (n:Int)->IsO (fun L=>(v,L)∈xs++ys) (get (ys.foldl zdq f) v)
 | [],xs,f,_,_,h,v,hv=>by
  rw[List.append_nil];exact h v hv
 | y::ys,xs,f,hi,hl,h,v,hv=>by
  have y1:=hi y List.mem_cons_self;have e:xs++y::ys=(xs++[y])++ys:=by simp
  rw[e,List.foldl_cons];refine zhC ys (xs++[y]) (zdq f y) (fun r hr=>hi r (List.mem_cons_of_mem _ hr)) (by simp[zdq,hl]) (fun u hu=>?_) v hv;unfold zdq;rw[zev (by rw[hl];omega) hu.1]
  by_cases c:u=y.1
  .rw[if_pos c];subst c;have one:IsO (fun L=>L=y.2) (some y.2):=⟨rfl,fun L e=>by omega⟩;refine zjd ((h _ y1).or one) fun L=>⟨?_, ?_⟩
   .rintro (a | rfl)
    .exact List.mem_append_left _ a
    .exact List.mem_append_right _ (List.mem_singleton_self _)
   .intro a;rcases List.mem_append.mp a with a | a
    .exact .inl a
    .have:=List.mem_singleton.mp a
     exact .inr (by rw[<-this])
  .rw[if_neg c];refine zjd (h u hu) fun L=>⟨fun a=>List.mem_append_left _ a,fun a=>?_⟩
   rcases List.mem_append.mp a with a | a
   .exact a
   .have:=List.mem_singleton.mp a
    exact absurd (by rw[<-this]) c
theorem zgq:∀(ys:List (Int×Int)) (f:List (Option Int)),(ys.foldl zdq f).length=f.length
 | [],_=>rfl
 | y::ys,f=>by rw[List.foldl_cons,zgq ys];simp[zdq]
theorem zk0 {v w:List (Option Int)} (hl:v.length=w.length) (h:∀i:Int,0<=i/\i < (v.length:Int)->get v i=get w i):v=w:=by
 apply List.ext_getElem hl;intro i h1 h2
 have:=h i (by omega)
 unfold get at this;rw[Int.toNat_natCast,List.getElem?_eq_getElem h1,List.getElem?_eq_getElem h2] at this;exact this
theorem ziK {n:Int} {rs:List Road} {one:Int} (ok:zbM n rs) (h1:0<=one/\one < n) {k:Nat} {v L:Int} (w:WkN rs k one v L):0<=v/\v < n:=by
 cases w with
 | nil=>exact h1
 | snoc _ hr=>exact (ok.rd _ hr).2.1
theorem zmz {n:Int} {rs:List Road} {one:Int} (ok:zbM n rs) (h1:0<=one/\one < n) (k:Nat):(zed rs one k).foldl zdq (List.replicate n.toNat none)=gone n.toNat rs one k:=by
 have n0:=ok.n0;have fl:((zed rs one k).foldl zdq (List.replicate n.toNat none)).length=n.toNat:=by rw[zgq];simp
 refine zk0 (by rw[fl,zdK]) fun i hi=>?_
 rw[fl] at hi;have a:=zhC (n:=n.toNat) (zed rs one k) [] (List.replicate n.toNat none) (fun w hw=>by
  have:=ziK ok h1 ((zdO k w.1 w.2).mp hw)
  omega) (by simp) (fun v hv=>by
  rw[ze8];intro L h
  cases h) i (by omega)
 rw[List.nil_append] at a;exact a.eq (zjt ok h1 k i (by omega)) (fun L z=>⟨L,Int.le_refl _,(zdO k i L).mp z⟩) (fun L z=>⟨L,Int.le_refl _,(zdO k i L).mpr z⟩)
theorem zgL {v:List (Option Int)} {i:Int}:v.set i.toNat (get v i)=v:=by
 unfold get;apply List.ext_getElem?;intro j
 by_cases h:i.toNat=j
 .subst h
  by_cases z:i.toNat < v.length
  .rw[List.getElem?_set_self z,List.getElem?_eq_getElem z,Option.getD_some]
  .rw[List.getElem?_eq_none (by simp;omega),List.getElem?_eq_none (by omega)]
 .rw[List.getElem?_set_ne h]
def entR (far:List (Option Int)) (p:List (Option Int)×List (Option Int)) (i:Int) (r:Road):List (Option Int)×List (Option Int):=
 match (get far r.1).map (·+r.2.2) with
 | none=>p
 | some x=>match get p.1 r.2.1 with
  | none=>(p.1.set r.2.1.toNat (some x),p.2.set r.2.1.toNat (some i))
  | some c=>if x < c then (p.1.set r.2.1.toNat (some x),p.2.set r.2.1.toNat (some i)) else p
theorem zkE (far:List (Option Int)) (p:List (Option Int)×List (Option Int)) (i:Int) (r:Road):(entR far p i r).1=zec far p.1 r:=by
 unfold entR zec
 cases h:(get far r.1).map (·+r.2.2) with
 | none=>
  dsimp only
  cases c:get p.1 r.2.1 with
  | none=>rw[show lO none none=get p.1 r.2.1 from c.symm,zgL]
  | some d=>rw[show lO (some d) none=get p.1 r.2.1 from c.symm,zgL]
 | some x=>
  dsimp only
  cases c:get p.1 r.2.1 with
  | none=>rfl
  | some d=>
   dsimp only;have e:lO (some d) (some x)=if x < d then some x else some d:=rfl
   rw[e];split
   .rfl
   .rw[<-c,zgL]
def ze9 (far:List (Option Int)):List Road->Int->List (Option Int)×List (Option Int)->List (Option Int)×List (Option Int)
 | [],_,p=>p
 | r::rs,i,p=>ze9 far rs (i+1) (entR far p i r)
theorem zjJ (far:List (Option Int)):∀(rs:List Road) (i:Int) (p:List (Option Int)×List (Option Int)),(ze9 far rs i p).1=rs.foldl (zec far) p.1
 | [],_,_=>rfl
 | r::rs,i,p=>by rw[ze9,zjJ far rs,zkE,List.foldl_cons]
def EI (rs:List Road) (far:List (Option Int)) (p:List (Option Int)×List (Option Int)):Prop:=p.2.length=p.1.length/\∀v x,0<=v->get p.1 v=some x->∃k r y,get p.2 v=some k/\zaI rs k=some r/\r.2.1=v/\get far r.1=some y/\x=y+r.2.2
theorem EI.put {rs:List Road} {far:List (Option Int)} {p:List (Option Int)×List (Option Int)} {i y:Int} {r:Road} (h:EI rs far p) (hr:zaI rs i=some r) (h0:0<=r.2.1/\r.2.1 < p.1.length) (hy:get far r.1=some y):EI rs far (p.1.set r.2.1.toNat (some (y+r.2.2)),p.2.set r.2.1.toNat (some i)):=by
 obtain ⟨l,h⟩:=h;refine ⟨by simp[l],fun v x hv e=>?_⟩;dsimp only at e ⊢;rw[zev h0 hv] at e;rw[zev (by rw[l];exact h0) hv]
 by_cases c:v=r.2.1
 .rw[if_pos c] at e ⊢;cases e;exact ⟨i,r,y,rfl,hr,c.symm,hy,rfl⟩
 .rw[if_neg c] at e ⊢;exact h v x hv e
theorem EI.step {rs:List Road} {far:List (Option Int)} {p:List (Option Int)×List (Option Int)} {i:Int} {r:Road} (h:EI rs far p) (hr:zaI rs i=some r) (h0:0<=r.2.1/\r.2.1 < p.1.length):EI rs far (entR far p i r):=by
 unfold entR
 cases e:get far r.1 with
 | none=>exact h
 | some y=>
  have:=h.put hr h0 e
  dsimp only[Option.map_some]
  cases c:get p.1 r.2.1 with
  | none=>exact this
  | some d=>
   dsimp only;split
   .exact this
   .exact h
theorem zhJ (far:List (Option Int)) (p:List (Option Int)×List (Option Int)) (i:Int) (r:Road):(entR far p i r).1.length=p.1.length:=by rw[zkE,zd9]
def zea (n:Nat) (rs:List Road) (far:List (Option Int)):List (Option Int)×List (Option Int):=ze9 far rs 0 (List.replicate n none,List.replicate n none)
theorem zhe (n:Nat) (rs:List Road) (far:List (Option Int)):(zea n rs far).1=zcc n rs far:=zjJ far rs 0 _
theorem zhQ {n:Nat} {rs:List Road} {far:List (Option Int)}:∀(ys:List Road) (i:Nat) (p:List (Option Int)×List (Option Int)),(∀j r,ys[j]? = some r->rs[i+j]? = some r/\0<=r.2.1/\r.2.1 < (n:Int))->p.1.length=n->EI rs far p->EI rs far (ze9 far ys i p)
 | [],_,_,_,_,h=>h
 | r::ys,i,p,hs,hl,h=>by
  obtain ⟨a,b,c⟩:=hs 0 r rfl;rw[ze9];have e:((i:Int)+1)=((i+1:Nat):Int):=by omega
  rw[e];refine zhQ (n:=n) ys (i+1) _ (fun j r' hj=>?_) (by rw[zhJ];exact hl) (h.step (zex a) ⟨b,by rw[hl];exact c⟩)
  have:=hs (j+1) r' hj
  rwa [show i+(j+1)=i+1+j by omega] at this
theorem zhP {n:Int} {rs:List Road} (ok:zbM n rs) (far:List (Option Int)):EI rs far (zea n.toNat rs far):=by
 have n0:=ok.n0;refine zhQ (n:=n.toNat) rs 0 _ (fun j r hj=>?_) (by simp) ⟨by simp,fun v x _ e=>?_⟩
 .obtain ⟨_,b,_⟩:=ok.rd r (List.mem_of_getElem? hj);rw[Nat.zero_add];exact ⟨hj,by omega,by omega⟩
 .rw[ze8] at e;cases e
def zbL (n:Nat) (rs:List Road) (one:Int):Nat->List (List (Option Int))
 | 0=>[]
 | k+1=>zbL n rs one k++[(zea n rs (gone n rs one k)).2]
theorem zfl (n:Nat) (rs:List Road) (one:Int):∀k,(zbL n rs one k).length=k
 | 0=>rfl
 | k+1=>by rw[zbL,List.length_append,zfl n rs one k];rfl
theorem zl0 {n:Int} {rs:List Road} {one v x:Int} (ok:zbM n rs) (k:Nat) (hv:0<=v/\v < n) (h:get (gone n.toNat rs one (k+1)) v=some x):∃j r y,get (zea n.toNat rs (gone n.toNat rs one k)).2 v=some j/\zaI rs j=some r/\r.2.1=v/\get (gone n.toNat rs one k) r.1=some y/\x=y+r.2.2:=
 (zhP ok (gone n.toNat rs one k)).2 v x hv.1 (by rw[zhe];exact h)
theorem zla (v:List (Option Int)) (i:Nat) (c:Option Int):(v.map cO).set i (cO c)=(v.set i c).map cO:=by rw[List.map_set]
theorem ze0 {A:EF} {ρ ρ1 ρ2:Rho} {rv:Rv} {q:Bool} {k b:Nat} {i:Int} {v:List (Option Int)} {c:Option Int} (hA:A ρ=.ok rv ρ1 q) (ht:coe ρ1 rv=some (.d (oD c),ρ2)) (hk:ρ2[k]? = some (rowO v)) (hb:ρ2[b]? = some (.d (.int i))) (hi:0<=i/\i < v.length) :
  sSub coe A (zab k) (zab b) ρ=.nx (ρ2.set k (rowO (v.set i.toNat c))):=by
 have n1:zab k ρ2=.ok (.at k []) ρ2 true:=by unfold zab;rw[hk];rfl
 have vb:vn ρ2 (.at b [])=some (.d (.int i)):=by simp[vn,vw,hb,sub]
 have n2:eSc decI (zab b) ρ2=.ok i ρ2 true:=za1 (F24.zdP hb) vb rfl;have ix:ixN v.length i=some i.toNat:=zjm hi.1 hi.2;have pu:L2.zdz ρ2 (.at k []) (fun os=>(ixN os.length i).map fun j=>os.set j (.d (oD c)))=some (ρ2.set k (rowO (v.set i.toNat c))):=by
  rw[zhg,hk];unfold rowO;simp only[List.length_map,ix,Option.map_some];rw[<-zmS,zla]
 unfold sSub;rw[hA];dsimp only;rw[ht];dsimp only;rw[n1];dsimp only;rw[n2];dsimp only;rw[if_pos (by simp[pok]),pu]
theorem znK (c:Option Int) (l:Int):zaU [.l [.d (oD c),.d (.int l)]]=.ok (.d (oD (c.map (·+l)))) []:=by
 have fzr:fz (.l [.d (oD c),.d (.int l)])=some (rowD [c,some l]):=by rw[zkL];rfl
 have fi:fIn false (.d .none) (.l [.d (oD c),.d (.int l)])=some (.d (.bool (decide (none∈[c,some l])))):=by
  rw[<-zjB [c,some l]];unfold fIn;rw[fzr,fz_d (rowD [c,some l])]
 cases c with
 | none=>
  have z:decide ((none:Option Int)∈[none,some l])=true:=by simp
  rw[z] at fi;generalize [O.d (oD none),.d (.int l)]=R at *;exact zdn rfl (L2.zgD (if_t (za0 (zaD rfl rfl rfl rfl rfl fi) rfl) (zbX rfl rfl))) rfl
 | some a=>
  have z:decide (none∈[some a,some l])=false:=by simp
  have zs:f1 fSum [.l [.d (oD (some a)),.d (.int l)]]=some (.d (.int (a+l))):=by
   have:zsOf (.l [.d (oD (some a)),.d (.int l)])=some [a,l]:=rfl
   show (zsOf (.l [.d (oD (some a)),.d (.int l)])).map (fun ns=>O.d (PyData.int ns.sum))=_
   rw[this];simp
  rw[z] at fi;generalize [O.d (oD (some a)),.d (.int l)]=R at *;exact zdn rfl (L2.zas (if_f (za0 (zaD rfl rfl rfl rfl rfl fi) rfl) rfl) (zbX (zgK (zad rfl rfl rfl) rfl zs) rfl)) rfl
theorem rd_D {ρ:Rho} {k b:Nat} {v:List (Option Int)} {i:Int} (hk:ρ[k]? = some (.d (rowD v))) (hb:ρ[b]? = some (.d (.int i))) (hi:0<=i/\i < v.length):eIx (zab k) (zab b) ρ=.ok (.own (.d (oD (get v i)))) ρ true:=by
 have vb:vn ρ (.at b [])=some (.d (.int i)):=by simp[vn,vw,hb,sub]
 have g:gIx ρ (.at k []) i=some (.own (.d (oD (get v i)))):=by
  refine zkM hk (j:=i.toNat) (zfu ⟨hi.1,by simpa using hi.2⟩) ?_;have hl:i.toNat < v.length:=by omega
  unfold get;rw[List.getElem?_map,List.getElem?_eq_getElem hl,Option.getD_some,zkL];rfl
 exact zck (q1:=true) (q2:=true) (F24.zdP hk) (za1 (F24.zdP hb) vb rfl) (by simp[pok]) g
theorem rd_O {ρ:Rho} {k b:Nat} {v:List (Option Int)} {i:Int} (hk:ρ[k]? = some (rowO v)) (hb:ρ[b]? = some (.d (.int i))) (hi:0<=i/\i < v.length):eIx (zab k) (zab b) ρ=.ok (.own (.d (oD (get v i)))) ρ true:=by
 have vb:vn ρ (.at b [])=some (.d (.int i)):=by simp[vn,vw,hb,sub]
 have n1:zab k ρ=.ok (.at k []) ρ true:=by unfold zab;rw[hk];rfl
 have hl:i.toNat < v.length:=by omega
 have g:gIx ρ (.at k []) i=some (.own (.d (oD (get v i)))):=by
  unfold rowO at hk;refine zfG ?_ hi.1 (by simp;omega) hk;unfold get;rw[List.getElem?_map,List.getElem?_eq_getElem hl,Option.getD_some,<-zmS];rfl
 exact zck (q1:=true) (q2:=true) n1 (za1 (F24.zdP hb) vb rfl) (by simp[pok]) g
theorem zmQ {V W:TF} {ρ ρ1:Rho} {q1:Bool} (h:V ρ=.ok false ρ1 q1):gAnd V W ρ=.ok false ρ1 (q1&&true):=zb8 h rfl
theorem zpG (a:Option Int):fIs false (.d (oD a)) (.d .none)=some (.d (.bool (decide (a=none)))):=by cases a<;>rfl
theorem ziV {w0 z8:O} {far:List (Option Int)} {p:List (Option Int)×List (Option Int)} {i:Int} {r:Road} (h1:0<=r.1/\r.1 < far.length) (h2:0<=r.2.1/\r.2.1 < p.1.length) (hl:p.2.length=p.1.length) :
  ∃z,zbt [w0,.d (rowD far),rowO p.1,rowO p.2,.d (.int i),.d (.int r.1),.d (.int r.2.1),.d (.int r.2.2),z8]=.nx [w0,.d (rowD far),rowO (entR far p i r).1,rowO (entR far p i r).2,.d (.int i),.d (.int r.1),.d (.int r.2.1),.d (.int r.2.2),z]:=by
 have r1:=rd_D (ρ:=[w0,.d (rowD far),rowO p.1,rowO p.2,.d (.int i),.d (.int r.1),.d (.int r.2.1),.d (.int r.2.2),z8]) (k:=1) (b:=5) rfl rfl h1;have su:=znK (get far r.1) r.2.2;have sc:=F30.zjN ((get far r.1).map (·+r.2.2));have s1:(sAsg coe (zaq [false] zaU (zae (zaL coes .l (zae (eIx (zab 1) (zab 5)) (zae (zab 7) aNil))) aNil)) (gtN 8)) [w0,.d (rowD far),rowO p.1,rowO p.2,.d (.int i),.d (.int r.1),.d (.int r.2.1),.d (.int r.2.2),z8]=.nx [w0,.d (rowD far),rowO p.1,rowO p.2,.d (.int i),.d (.int r.1),.d (.int r.2.1),.d (.int r.2.2),.d (oD ((get far r.1).map (·+r.2.2)))]:=
  zaC (zc9 (zad (zaP (zad r1 (zad rfl rfl rfl) rfl) rfl (Nat.le_of_ble_eq_true rfl) rfl) rfl rfl) rfl su (by simp[sc])) rfl rfl
 refine ⟨.d (oD ((get far r.1).map (·+r.2.2))),L2.zas s1 ?_⟩;have r2:=rd_O (ρ:=[w0,.d (rowD far),rowO p.1,rowO p.2,.d (.int i),.d (.int r.1),.d (.int r.2.1),.d (.int r.2.2),.d (oD ((get far r.1).map (·+r.2.2)))]) (k:=2) (b:=6) rfl rfl h2;unfold entR
 cases hx:(get far r.1).map (·+r.2.2) with
 | none=>exact if_f (zmQ (za0 (zaD rfl rfl rfl rfl rfl rfl) rfl)) rfl
 | some x=>
  rw[hx] at r2;have pA:(sSub coe (zab 8) (zab 2) (zab 6)) [w0,.d (rowD far),rowO p.1,rowO p.2,.d (.int i),.d (.int r.1),.d (.int r.2.1),.d (.int r.2.2),.d (oD (some x))]=.nx [w0,.d (rowD far),rowO (p.1.set r.2.1.toNat (some x)),rowO p.2,.d (.int i),.d (.int r.1),.d (.int r.2.1),.d (.int r.2.2),.d (oD (some x))]:=ze0 (ρ1:=[w0,.d (rowD far),rowO p.1,rowO p.2,.d (.int i),.d (.int r.1),.d (.int r.2.1),.d (.int r.2.2),.d (oD (some x))]) (ρ2:=[w0,.d (rowD far),rowO p.1,rowO p.2,.d (.int i),.d (.int r.1),.d (.int r.2.1),.d (.int r.2.2),.d (oD (some x))]) (c:=some x) (v:=p.1) rfl rfl rfl rfl h2;have pB:(sSub coe (zab 4) (zab 3) (zab 6)) [w0,.d (rowD far),rowO (p.1.set r.2.1.toNat (some x)),rowO p.2,.d (.int i),.d (.int r.1),.d (.int r.2.1),.d (.int r.2.2),.d (oD (some x))]=.nx [w0,.d (rowD far),rowO (p.1.set r.2.1.toNat (some x)),rowO (p.2.set r.2.1.toNat (some i)),.d (.int i),.d (.int r.1),.d (.int r.2.1),.d (.int r.2.2),.d (oD (some x))]:=ze0 (ρ1:=[w0,.d (rowD far),rowO (p.1.set r.2.1.toNat (some x)),rowO p.2,.d (.int i),.d (.int r.1),.d (.int r.2.1),.d (.int r.2.2),.d (oD (some x))]) (ρ2:=[w0,.d (rowD far),rowO (p.1.set r.2.1.toNat (some x)),rowO p.2,.d (.int i),.d (.int r.1),.d (.int r.2.1),.d (.int r.2.2),.d (oD (some x))]) (c:=some i) (v:=p.2) rfl rfl rfl rfl (by rw[hl];exact h2);have put:=L2.zas pA pB;have t8:(tst (e2 (zab 8) (eC .none) (fIs true))) [w0,.d (rowD far),rowO p.1,rowO p.2,.d (.int i),.d (.int r.1),.d (.int r.2.1),.d (.int r.2.2),.d (oD (some x))]=.ok true [w0,.d (rowD far),rowO p.1,rowO p.2,.d (.int i),.d (.int r.1),.d (.int r.2.1),.d (.int r.2.2),.d (oD (some x))] true:=rfl;have tn:(tst (e2 (eIx (zab 2) (zab 6)) (eC .none) (fIs false))) [w0,.d (rowD far),rowO p.1,rowO p.2,.d (.int i),.d (.int r.1),.d (.int r.2.1),.d (.int r.2.2),.d (oD (some x))]=.ok (decide (get p.1 r.2.1=none)) [w0,.d (rowD far),rowO p.1,rowO p.2,.d (.int i),.d (.int r.1),.d (.int r.2.1),.d (.int r.2.2),.d (oD (some x))] true:=by
   have n:=zpG (get p.1 r.2.1);exact za0 (q:=true) (zaD (q1:=true) (q2:=true) r2 rfl rfl rfl rfl n) rfl
  dsimp only
  cases hc:get p.1 r.2.1 with
  | none=>
   rw[hc,decide_eq_true rfl] at tn;exact if_t (zg5 t8 (or_t tn)) put
  | some c=>
   rw[hc] at r2 tn;rw[decide_eq_false (by simp)] at tn;have tl:(tst (e2 (zab 8) (eIx (zab 2) (zab 6)) fLt)) [w0,.d (rowD far),rowO p.1,rowO p.2,.d (.int i),.d (.int r.1),.d (.int r.2.1),.d (.int r.2.2),.d (oD (some x))]=.ok (decide (x < c)) [w0,.d (rowD far),rowO p.1,rowO p.2,.d (.int i),.d (.int r.1),.d (.int r.2.1),.d (.int r.2.2),.d (oD (some x))] true:=by
    have n:fLt (.d (.int x)) (.d (.int c))=some (.d (.bool (decide (x < c)))):=rfl;exact za0 (q:=true) (zaD (q1:=true) (q2:=true) rfl r2 rfl rfl rfl n) rfl
   dsimp only
   by_cases z:x < c
   .rw[if_pos z];rw[decide_eq_true z] at tl;exact if_t (zg5 t8 (or_f tn tl)) put
   .rw[if_neg z];rw[decide_eq_false z] at tl;exact if_f (zg5 t8 (or_f tn tl)) rfl
theorem zgg {w0:O} {far:List (Option Int)} {n:Nat} (hf:far.length=n):∀(ys:List Road) (i:Nat) (p:List (Option Int)×List (Option Int)) (z4 z5 z6 z7 z8:O),(∀r∈ys,(0<=r.1/\r.1 < (n:Int))/\0<=r.2.1/\r.2.1 < (n:Int))->p.1.length=n->p.2.length=n->
  ∃u4 u5 u6 u7 u8,forF (gtT (zam (gtN 4) (zam (gtT (zam (gtN 5) (zam (gtN 6) (zam (gtN 7) zbD)))) zbD))) zbt (zcQ i (ys.map zav)) [w0,.d (rowD far),rowO p.1,rowO p.2,z4,z5,z6,z7,z8]=.nx [w0,.d (rowD far),rowO (ze9 far ys i p).1,rowO (ze9 far ys i p).2,u4,u5,u6,u7,u8]
 | [],i,p,z4,z5,z6,z7,z8,_,_,_=>⟨z4,z5,z6,z7,z8,rfl⟩
 | r::ys,i,p,z4,z5,z6,z7,z8,hr,l1,l2=>by
  obtain ⟨a,b⟩:=hr r List.mem_cons_self;obtain ⟨z,st⟩:=ziV (w0:=w0) (z8:=z8) (p:=p) (i:=i) (r:=r) (far:=far) (by rw[hf];exact a) (by rw[l1];exact b) (by rw[l1,l2]);have e2:(entR far p i r).2.length=n:=by
   unfold entR;split
   .exact l2
   .split
    .simp[l2]
    .split
     .simp[l2]
     .exact l2
  obtain ⟨u4,u5,u6,u7,u8,lo⟩:=zgg hf ys (i+1) (entR far p i r) (.d (.int i)) (.d (.int r.1)) (.d (.int r.2.1)) (.d (.int r.2.2)) z (fun r' h=>hr r' (List.mem_cons_of_mem _ h)) (by rw[zhJ];exact l1) e2;refine ⟨u4,u5,u6,u7,u8, ?_⟩;rw[List.map_cons,zcQ,forF];have g:(gtT (zam (gtN 4) (zam (gtT (zam (gtN 5) (zam (gtN 6) (zam (gtN 7) zbD)))) zbD))) (.d (.tuple [.int i,zav r])) [w0,.d (rowD far),rowO p.1,rowO p.2,z4,z5,z6,z7,z8]=some [w0,.d (rowD far),rowO p.1,rowO p.2,.d (.int i),.d (.int r.1),.d (.int r.2.1),.d (.int r.2.2),z8]:=rfl;rw[g];dsimp only;rw[st];exact lo
theorem zia {c:Int} (c0:0<=c) (c1:c<=1000):fMul (.l [.d .none]) (.d (.int c))=some (rowO (List.replicate c.toNat none)):=by
 rw[zfR c0 c1];unfold rowO;rw[List.map_replicate];rfl
theorem zgN {n:Int} {rs:List Road} {far:List (Option Int)} (ok:zbM n rs) (hf:far.length=n.toNat):zbe [.d (zau rs),.d (rowD far)]=.ok (.t [rowO (zea n.toNat rs far).1,rowO (zea n.toNat rs far).2]) []:=by
 have n0:=ok.n0;have n1:=ok.n1;have ln:∀z2 z3,eB (zae (zab 1) aNil) (f1 fLen) [.d (zau rs),.d (rowD far),z2,z3,.z,.z,.z,.z,.z]=.ok (.own (.d (.int n))) [.d (zau rs),.d (rowD far),z2,z3,.z,.z,.z,.z,.z] true:=fun z2 z3=>by
  have:f1 fLen [.d (rowD far)]=some (.d (.int n)):=by
   unfold rowD;simp[f1,fLen,els,hf];omega
  exact zgK (q1:=true) (zad (q1:=true) (q2:=true) rfl rfl rfl) rfl this
 have mu:=zia (c:=n) n0 (by omega);obtain ⟨u4,u5,u6,u7,u8,lo⟩:=zgg (w0:=.d (zau rs)) (n:=n.toNat) (far:=far) hf rs 0 (List.replicate n.toNat none,List.replicate n.toNat none) .z .z .z .z .z (fun r hr=>by
  obtain ⟨a,b,_⟩:=ok.rd r hr;exact ⟨by omega,by omega⟩) (by simp) (by simp)
 have it:∀z2 z3,itE (zab 0) [.d (zau rs),.d (rowD far),z2,z3,.z,.z,.z,.z,.z]=.ok (zcQ 0 (rs.map zav)) [.d (zau rs),.d (rowD far),z2,z3,.z,.z,.z,.z,.z] true:=fun z2 z3=>by
  unfold itE zau;rfl
 have e:zea n.toNat rs far=ze9 far rs ((0:Nat):Int) (List.replicate n.toNat none,List.replicate n.toNat none):=rfl;rw[e];generalize ze9 far rs ((0:Nat):Int) (List.replicate n.toNat none,List.replicate n.toNat none)=P at *;dsimp only at lo;unfold rowO at *;generalize zau rs=R at *;generalize rowD far=Fd at *;generalize (List.replicate n.toNat none).map cO=Ns at *;exact zdn rfl (L2.zas (zaC (zaD (zaP (zad rfl rfl rfl) rfl (Nat.le_of_ble_eq_true rfl) rfl) (ln _ _) rfl rfl rfl mu) rfl rfl) (L2.zas (zaC (zaD (zaP (zad rfl rfl rfl) rfl (Nat.le_of_ble_eq_true rfl) rfl) (ln _ _) rfl rfl rfl mu) rfl rfl) (L2.zas (zfi (it _ _) lo) (zbX (zaP (zad rfl (zad rfl rfl rfl) rfl) rfl (Nat.le_of_ble_eq_true rfl) rfl) rfl)))) rfl
theorem zid {n:Nat} {one v x:Int} (h1:0<=one/\one < n) (hv:0<=v) (h:get (start n one) v=some x):v=one/\x=0:=by
 unfold start at h;rw[zev (by simp;omega) hv,ze8] at h;split at h
 .cases h;exact ⟨by assumption,rfl⟩
 .cases h
theorem zjy {w1 w2 z:O} {n v j:Int} {rs:List Road} {r:Road} {e:List (Option Int)} {acc:List Int} (hl:acc.length<=1000) (hv:0<=v/\v < e.length) (he:get e v=some j) (hr:zaI rs j=some r) :
  zaN [.d (zau rs),w1,w2,zaA acc,.d (.int v),.d (rowD e)]=.nx [.d (zau rs),w1,w2,zaA (acc++[j]),.d (.int r.1),.d (rowD e)]:=by
 obtain ⟨j0,j1,j2⟩:=zcd hr;have rd:=fun (w:O)=>rd_D (ρ:=[.d (zau rs),w1,w2,w,.d (.int v),.d (rowD e)]) (k:=5) (b:=4) rfl rfl hv
 rw[he] at rd;have g0:∀ρ:Rho,ρ[0]? = some (.d (zau rs))->gIx ρ (.at 0 []) j=some (.own (.d (zav r))):=fun ρ h=>by
  refine zkM h (j:=j.toNat) (zfu ⟨j0,by simpa using j1⟩) ?_;rw[List.getElem?_map,j2];rfl
 have gr:=fun ρ=>(zhN (ρ:=ρ) r).1
 have lt:(acc.map fun h=>O.d (.int h)).length < sizeLine:=zeq (by simp;omega);have ea:(acc.map fun h=>O.d (.int h))++[O.d (.int j)]=(acc++[j]).map fun h=>O.d (.int h):=by simp
 unfold zaA at *;rw[<-ea];generalize (acc.map fun h=>O.d (.int h))=X at *;generalize zau rs=R at *;generalize rowD e=E at *;have s1:(zcW (eApp (zab 3) (eIx (zab 5) (zab 4)))) [.d R,w1,w2,.l X,.d (.int v),.d E]=.nx [.d R,w1,w2,.l (X++[.d (.int j)]),.d (.int v),.d E]:=zd2 (zgi rfl rfl (rd _) rfl rfl (zds rfl lt));have s2:(sAsg coe (eIx (eIx (zab 0) (eIx (zab 5) (zab 4))) (eC (.int 0))) (gtN 4)) [.d R,w1,w2,.l (X++[.d (.int j)]),.d (.int v),.d E]=.nx [.d R,w1,w2,.l (X++[.d (.int j)]),.d (.int r.1),.d E]:=zaC (zck (zck rfl (za1 (rd _) rfl rfl) rfl (g0 _ rfl)) (za1 rfl rfl rfl) rfl (gr _)) rfl rfl;exact L2.zas s1 s2
theorem zgt {n:Int} {rs:List Road} {one:Int} {w1 w2:O} (ok:zbM n rs) (h1:0<=one/\one < n):∀(k:Nat) (v x:Int) (acc:List Int) (z:O),0<=v/\v < n->get (gone n.toNat rs one k) v=some x->acc.length+k<=1000->
  ∃ws z',ws.length=k/\zbf rs one v ws=true/\zbB rs ws=x/\forF (gtN 5) zaN ((((zbL n.toNat rs one k).map rowD).reverse).map O.d) [.d (zau rs),w1,w2,zaA acc,.d (.int v),z]=.nx [.d (zau rs),w1,w2,zaA (acc++ws.reverse),.d (.int one),z']
 | 0,v,x,acc,z,hv,hx,hl=>by
  obtain ⟨rfl,rfl⟩:=zid (by omega) hv.1 hx;refine ⟨[],z,rfl,by simp[zbf],rfl, ?_⟩;rw[List.reverse_nil,List.append_nil];rfl
 | k+1,v,x,acc,z,hv,hx,hl=>by
  obtain ⟨j,r,y,ej,hr,rfl,ey,rfl⟩:=zl0 ok k hv hx;obtain ⟨⟨a0,a1⟩,_⟩:=ok.rd r (zc5 hr);obtain ⟨ws,z',e1,e2,e3,lo⟩:=zgt (w1:=w1) (w2:=w2) ok h1 k r.1 y (acc++[j]) (.d (rowD (zea n.toNat rs (gone n.toNat rs one k)).2)) ⟨a0,a1⟩ ey (by simp;omega);refine ⟨ws++[j],z',by simp[e1],ze1 e2 (zgr hr), ?_, ?_⟩
  .rw[zie,zd6,zeM hr,e3];simp[zbB]
  .have el:=(zhP ok (gone n.toNat rs one k)).1;rw[zhe] at el;have ll:(zcc n.toNat rs (gone n.toNat rs one k)).length=n.toNat:=zdK n.toNat rs one (k+1);have st:=zjy (w1:=w1) (w2:=w2) (z:=z) (n:=n) (acc:=acc) (by omega) (by rw[el,ll];omega) ej hr;rw[zbL,List.map_append,List.reverse_append,List.map_append]
   show forF (gtN 5) zaN (.d (rowD (zea n.toNat rs (gone n.toNat rs one k)).2)::_) _=_
   rw[forF]
   show (match zaN [.d (zau rs),w1,w2,zaA acc,.d (.int r.2.1),.d (rowD (zea n.toNat rs (gone n.toNat rs one k)).2)] with | .nx ρ2=>_ | .ct ρ2=>_ | .br ρ2=>_ | r=>r)=_
   rw[st];dsimp only;rw[show acc++(ws++[j]).reverse=acc++[j]++ws.reverse by simp];exact lo
theorem znN {n:Int} {rs:List Road} {one v x:Int} {k:Nat} (ok:zbM n rs) (h1:0<=one/\one < n) (hk:k<=60) (hv:0<=v/\v < n) (hx:get (gone n.toNat rs one k) v=some x) :
  ∃ws,ws.length=k/\zbf rs one v ws=true/\zbB rs ws=x/\zbl [.d (zau rs),.d (.list ((zbL n.toNat rs one k).map rowD)),.d (.int v)]=.ok (zaA ws) []:=by
 obtain ⟨ws,z',e1,e2,e3,lo⟩:=zgt (w1:=.d (.list ((zbL n.toNat rs one k).map rowD))) (w2:=.d (.int v)) ok h1 k v x [] .z hv hx (by simp;omega);refine ⟨ws,e1,e2,e3, ?_⟩;have it:∀w3 w4,itV (zab 1) [.d (zau rs),.d (.list ((zbL n.toNat rs one k).map rowD)),.d (.int v),w3,w4,.z]=.ok ((((zbL n.toNat rs one k).map rowD).reverse).map O.d) [.d (zau rs),.d (.list ((zbL n.toNat rs one k).map rowD)),.d (.int v),w3,w4,.z] true:=fun w3 w4=>by
  unfold itV;rfl
 have rv:=zi9 ([]++ws.reverse);rw[List.nil_append,List.reverse_reverse] at rv;rw[List.nil_append] at lo;unfold zaA at *;generalize (ws.reverse.map fun h=>O.d (.int h))=X at *;generalize (ws.map fun h=>O.d (.int h))=Y at *;generalize (((zbL n.toNat rs one k).map rowD).reverse).map O.d=Z at *;generalize (zbL n.toNat rs one k).map rowD=ST at *;generalize zau rs=R at *;exact zdn rfl (L2.zas (zaC (zaP rfl rfl (Nat.le_of_ble_eq_true rfl) rfl) rfl rfl) (L2.zas (zaC rfl rfl rfl) (L2.zas (zfi (it _ _) lo) (zbX (znF rfl rfl rv) rfl)))) rfl
theorem zkm {n one:Int} {w0 w2 w3:O} {ws:List O} (n0:0<=n) (n1:n<=20) (h1:0<=one/\one < n):∃q,eLC (itR1 (zab 4)) [none,some 1] (gtN 0) (gRet true) zbq (w0::.d (.int one)::w2::w3::.d (.int n)::ws)=.ok (.own (rowO (start n.toNat one))) (w0::.d (.int one)::w2::w3::.d (.int n)::ws) q:=by
 obtain ⟨q,e⟩:=zeB (js:=[none,some 1]) (G:=gtN 0) (T:=gRet true) (A:=zbq) (ρ:=w0::.d (.int one)::w2::w3::.d (.int n)::ws) (fun _=>true) (fun o=>match o with | .d (.int p)=>cO (if p=one then some 0 else none) | _=>.z) (items:=rngO 0 n.toNat) (acc:=[]) (q:=true) (fun y hy=>by
  obtain ⟨i,hi⟩:=List.getElem?_of_mem hy;obtain ⟨hi,rfl⟩:=zcy hi;have t:(tst (e2 (zab 0) (zab 1) (fEq false))) [.d (.int (0+i)),.d (.int one)]=.ok (decide (0+(i:Int)=one)) [.d (.int (0+i)),.d (.int one)] true:=by
   have n:fEq false (.d (.int (0+i))) (.d (.int one))=some (.d (.bool (decide (0+(i:Int)=one)))):=by simp;rfl
   exact za0 (q:=true) (zaD (q1:=true) (q2:=true) rfl rfl rfl rfl rfl n) rfl
  by_cases c:0+(i:Int)=one
  .rw[decide_eq_true c] at t;refine ⟨[.d (.int (0+i)),.d (.int one)],[.d (.int (0+i)),.d (.int one)],true,rfl,rfl,fun _=>⟨.own (.d (.int 0)),[.d (.int (0+i)),.d (.int one)],true,[.d (.int (0+i)),.d (.int one)], ?_, ?_,rfl⟩,fun h=>by cases h⟩
   .unfold zbq eIf zg9 zbF;rw[t];rfl
   .show some _=some (cO (if 0+(i:Int)=one then some 0 else none),_)
    rw[if_pos c];rfl
  .rw[decide_eq_false c] at t;refine ⟨[.d (.int (0+i)),.d (.int one)],[.d (.int (0+i)),.d (.int one)],true,rfl,rfl,fun _=>⟨.own (.d .none),[.d (.int (0+i)),.d (.int one)],true,[.d (.int (0+i)),.d (.int one)], ?_, ?_,rfl⟩,fun h=>by cases h⟩
   .unfold zbq eIf zg9 zbF;rw[t];rfl
   .show some _=some (cO (if 0+(i:Int)=one then some 0 else none),_)
    rw[if_neg c]
    rfl)
 have em:((rngO 0 n.toNat).map fun o=>match o with | .d (.int p)=>cO (if p=one then some 0 else none) | _=>.z)=(start n.toNat one).map cO:=by
  apply List.ext_getElem?;intro i;unfold rngO start;rw[List.map_map,List.getElem?_map,List.getElem?_map]
  by_cases hi:i < n.toNat
  .rw[List.getElem?_range hi]
   by_cases c:i=one.toNat
   .subst c;rw[List.getElem?_set_self (by simp;omega)];simp only[Option.map_some,Function.comp];rw[if_pos (by omega)]
   .rw[List.getElem?_set_ne (by omega),List.getElem?_replicate,if_pos hi];simp only[Option.map_some,Function.comp];rw[if_neg (by omega)]
  .rw[List.getElem?_eq_none (by simp;omega),List.getElem?_eq_none (by simp;omega)];rfl
 rw[F29.zdv,List.nil_append,em] at e;have it:itR1 (zab 4) (w0::.d (.int one)::w2::w3::.d (.int n)::ws)=.ok (rngO 0 n.toNat) (w0::.d (.int one)::w2::w3::.d (.int n)::ws) true:=zfg (za1 rfl rfl rfl) (zee (by omega) (by omega)) rfl;unfold rowO;exact ⟨_,zmT it (zbx (by rw[zb1];omega)) e⟩
def stO (n:Nat) (rs:List Road) (one:Int) (t:Nat):O:=.l (((zbL n rs one t).map rowD).map O.d)
theorem zlB {n one:Int} {rs:List Road} {w0 w1 w2 w3 w4 z8 z9:O} {t:Nat} (ok:zbM n rs) (ht:t<=60) :
  ∃z,zcq [w0,w1,w2,w3,w4,.d (zau rs),rowO (gone n.toNat rs one t),stO n.toNat rs one t,z8,z9]=.nx [w0,w1,w2,w3,w4,.d (zau rs),rowO (gone n.toNat rs one (t+1)),stO n.toNat rs one (t+1),z8,z]:=by
 have om:=zgN (far:=gone n.toNat rs one t) ok (zdK _ _ _ _);rw[zhe] at om;have f6:=zhu (gone n.toNat rs one t);have f9:=zhu (zea n.toNat rs (gone n.toNat rs one t)).2;have lt:(((zbL n.toNat rs one t).map rowD).map O.d).length < sizeLine:=zeq (by simp[zfl];omega);have e:((zbL n.toNat rs one t).map rowD).map O.d++[.d (rowD (zea n.toNat rs (gone n.toNat rs one t)).2)]=((zbL n.toNat rs one (t+1)).map rowD).map O.d:=by
  rw[zbL,List.map_append,List.map_append];rfl
 have g:gone n.toNat rs one (t+1)=zcc n.toNat rs (gone n.toNat rs one t):=rfl;rw[g];unfold stO;rw[<-e];unfold rowO at *;generalize ((zbL n.toNat rs one t).map rowD).map O.d=ST at *;generalize (gone n.toNat rs one t).map cO=G at *;generalize (zcc n.toNat rs (gone n.toNat rs one t)).map cO=G' at *;generalize (zea n.toNat rs (gone n.toNat rs one t)).2.map cO=E at *;generalize rowD (zea n.toNat rs (gone n.toNat rs one t)).2=Ed at *;generalize rowD (gone n.toNat rs one t)=Gd at *;generalize zau rs=R at *;have s1:(sAsg coe (zaq [false,false] zbe (zae (zab 5) (zae (zab 6) aNil))) (gtT (zam (gtN 6) (zam (gtN 9) zbD)))) [w0,w1,w2,w3,w4,.d R,.l G,.l ST,z8,z9]=.nx [w0,w1,w2,w3,w4,.d R,.l G',.l ST,z8,.l E]:=zaC (zaO (zad rfl (zad rfl rfl rfl) rfl) (zcE rfl (zcE (zfC rfl f6) rfl)) om rfl rfl) rfl rfl;have s2:(zcW (eApp (zab 7) (zab 9))) [w0,w1,w2,w3,w4,.d R,.l G',.l ST,z8,.l E]=.nx [w0,w1,w2,w3,w4,.d R,.l G',.l (ST++[.d Ed]),z8,.d Ed]:=zd2 (zgi rfl rfl rfl rfl (zfC rfl f9) (zds rfl lt));exact ⟨_,L2.zas s1 s2⟩
theorem zlX (ρ:Rho):zcm [false,false,false,false] ρ=[]:=F29.zlX ρ
theorem zif {n one other k:Int} {rs:List Road} (ok:zbM n rs) (T:Taut rs) (h1:0<=one/\one < n) (h2:0<=other/\other < n) (k0:0<=k) (k1:k<=60) :
  (get (gone n.toNat rs one k.toNat) other=none/\zaG [.d (netD n rs),.d (.int one),.d (.int other),.d (.int k)]=.ok (.d .none) [])\/
  (∃x ws,get (gone n.toNat rs one k.toNat) other=some x/\ws.length=k.toNat/\zbf rs one other ws=true/\zbB rs ws=x/\zaG [.d (netD n rs),.d (.int one),.d (.int other),.d (.int k)]=.ok (.t [.d (.int x),zaA ws]) []):=by
 have n0:=ok.n0;have n1:=ok.n1;have cq:=zel ok h1 h2;have ct:=zfU ok T;obtain ⟨q,es⟩:=zkm (w0:=.d (netD n rs)) (w2:=.d (.int other)) (w3:=.d (.int k)) (ws:=[.d (zau rs),.z,.z,.z,.z]) n0 n1 h1;obtain ⟨ρ',lo,z8,z9,rfl⟩:=zcA (G:=gtN 8) (S:=zcq) (items:=rngO 0 k.toNat) (ρ:=[.d (netD n rs),.d (.int one),.d (.int other),.d (.int k),.d (.int n),.d (zau rs),rowO (start n.toNat one),.l [],.z,.z])
  (fun t ρ=>∃z8 z9,ρ=[.d (netD n rs),.d (.int one),.d (.int other),.d (.int k),.d (.int n),.d (zau rs),rowO (gone n.toNat rs one t),stO n.toNat rs one t,z8,z9]) ⟨_,_,rfl⟩
  (fun t x ρ hx hx__=>by
   obtain ⟨z8,z9,e⟩:=hx__;subst e;obtain ⟨hi,rfl⟩:=zcy hx;obtain ⟨z,st⟩:=zlB (w0:=.d (netD n rs)) (w1:=.d (.int one)) (w2:=.d (.int other)) (w3:=.d (.int k)) (w4:=.d (.int n)) (z8:=.d (.int (0+t))) (z9:=z9) (one:=one) (t:=t) ok (by omega);exact ⟨_,_,rfl,st,_,z,rfl⟩)
 rw[zb1] at lo;have ch:=F43.zj5 (p:=fun i j=>decide (i<=j)) (q:=fun i j=>decide (i<=j)) (A:=eC (.int 0)) (B:=zab 3) (C:=eC (.int 60)) (ρ:=[.d (netD n rs),.d (.int one),.d (.int other),.d (.int k),.z,.z,.z,.z,.z,.z]) (za1 rfl rfl rfl) (za1 rfl rfl rfl) (decide_eq_true k0) (za1 rfl rfl rfl) (decide_eq_true k1);have rd:=rd_O (ρ:=[.d (netD n rs),.d (.int one),.d (.int other),.d (.int k),.d (.int n),.d (zau rs),rowO (gone n.toNat rs one k.toNat),stO n.toNat rs one k.toNat,z8,z9]) (k:=6) (b:=2) rfl rfl (by rw[zdK];omega);have ok3:okR k=true:=zee (by omega) (by omega);have fs:=zgQ ((zbL n.toNat rs one k.toNat).map rowD);have head:∀o ρ2,(sSeq (sIf (tst (e2 (eIx (zab 6) (zab 2)) (eC .none) (fIs false))) (sRet mov (eC .none)) sNil)
  (sRet coe (zaL coes mkT (zae (eIx (zab 6) (zab 2)) (zae (zaq [false,false,false] zbl (zae (zab 5) (zae (zab 7) (zae (zab 2) aNil)))) aNil))))) [.d (netD n rs),.d (.int one),.d (.int other),.d (.int k),.d (.int n),.d (zau rs),rowO (gone n.toNat rs one k.toNat),stO n.toNat rs one k.toNat,z8,z9]=.rt o ρ2->zaG [.d (netD n rs),.d (.int one),.d (.int other),.d (.int k)]=.ok o []:=fun o ρ2 h=>by
  refine Eq.trans ?_ (congrArg (Rc.ok _) (zlX ρ2));refine zfI (ms:=[false,false,false,false]) (n:=10) (S:=zc1) (os:=[.d (netD n rs),.d (.int one),.d (.int other),.d (.int k)]) ?_;have b4:(sAsg coe (zab 0) (gtT (zam (gtN 4) (zam (gtN 5) zbD)))) [.d (netD n rs),.d (.int one),.d (.int other),.d (.int k),.z,.z,.z,.z,.z,.z]=.nx [.d (netD n rs),.d (.int one),.d (.int other),.d (.int k),.d (.int n),.d (zau rs),.z,.z,.z,.z]:=rfl;unfold stO rowO at *;generalize netD n rs=N at *;generalize zau rs=R at *;exact L2.zas (zd2 (zc9 (zad rfl (zad rfl (zad rfl rfl rfl) rfl) rfl) rfl cq rfl)) (L2.zas (if_f (zic ch) rfl) (L2.zas (zd2 (zc9 (zad rfl rfl rfl) rfl ct rfl)) (L2.zas b4 (L2.zas (zaC es rfl rfl) (L2.zas (zaC (zaP rfl rfl (Nat.le_of_ble_eq_true rfl) rfl) rfl rfl) (L2.zas (zfi (zfg (za1 rfl rfl rfl) ok3 rfl) lo) h))))))
 cases hx:get (gone n.toNat rs one k.toNat) other with
 | none=>
  left
  rw[hx] at rd;refine ⟨rfl,head (.d .none) [.d (netD n rs),.d (.int one),.d (.int other),.d (.int k),.d (.int n),.d (zau rs),rowO (gone n.toNat rs one k.toNat),stO n.toNat rs one k.toNat,z8,z9] ?_⟩;exact L2.zgD (if_t (za0 (q:=true) (zaD (q1:=true) (q2:=true) rd rfl rfl rfl rfl rfl) rfl) (zbX rfl rfl))
 | some x=>
  right
  rw[hx] at rd;obtain ⟨ws,e1,e2,e3,ew⟩:=znN ok h1 (k:=k.toNat) (by omega) h2 hx;refine ⟨x,ws,rfl,e1,e2,e3,head _ [.d (netD n rs),.d (.int one),.d (.int other),.d (.int k),.d (.int n),.d (zau rs),rowO (gone n.toNat rs one k.toNat),.d (.list ((zbL n.toNat rs one k.toNat).map rowD)),z8,z9] ?_⟩;unfold stO rowO zaA at *;generalize netD n rs=N at *;generalize zau rs=R at *;generalize ((zbL n.toNat rs one k.toNat).map rowD).map O.d=ST at *;generalize (zbL n.toNat rs one k.toNat).map rowD=SD at *;generalize (gone n.toNat rs one k.toNat).map cO=G at *;exact L2.zas (if_f (za0 (q:=true) (zaD (q1:=true) (q2:=true) rd rfl rfl rfl rfl rfl) rfl) rfl) (zbX (zaP (zad rd (zad (zaO (zad rfl (zad rfl (zad rfl rfl rfl) rfl) rfl) (zcE rfl (zcE (zfC rfl fs) (zcE rfl rfl))) ew rfl rfl) rfl rfl) rfl) rfl (Nat.le_of_ble_eq_true rfl) rfl) rfl)
def Row (v:List (Option Int)) (w:O):Prop:=w=rowO v\/w=.d (rowD v)
theorem Row.rd {ρ:Rho} {k b:Nat} {v:List (Option Int)} {i:Int} {w:O} (h:Row v w) (hk:ρ[k]? = some w) (hb:ρ[b]? = some (.d (.int i))) (hi:0<=i/\i < v.length):eIx (zab k) (zab b) ρ=.ok (.own (.d (oD (get v i)))) ρ true:=by
 rcases h with rfl | rfl
 .exact rd_O hk hb hi
 .exact rd_D hk hb hi
theorem zjb {w0 w1 w2 w3 w4:O} {far more:List (Option Int)} {r:Road} (h3:Row far w3) (h1:0<=r.1/\r.1 < far.length) (h2:0<=r.2.1/\r.2.1 < more.length) :
  zb4 [w0,w1,w2,w3,w4,rowO more,.d (.int r.1),.d (.int r.2.1),.d (.int r.2.2)]=.nx [w0,w1,w2,w3,w4,rowO (zec far more r),.d (.int r.1),.d (.int r.2.1),.d (.int r.2.2)]:=by
 have d1:=h3.rd (ρ:=[w0,w1,w2,w3,w4,rowO more,.d (.int r.1),.d (.int r.2.1),.d (.int r.2.2)]) (k:=3) (b:=6) rfl rfl h1;have d2:=rd_O (ρ:=[w0,w1,w2,w3,w4,rowO more,.d (.int r.1),.d (.int r.2.1),.d (.int r.2.2)]) (k:=5) (b:=7) rfl rfl h2;have su:=znK (get far r.1) r.2.2;have sc:=F30.zjN ((get far r.1).map (·+r.2.2));have le:=F32.zjs (get more r.2.1) ((get far r.1).map (·+r.2.2));have sl:=F30.zjN (lO (get more r.2.1) ((get far r.1).map (·+r.2.2)));have n8:zab 8 [w0,w1,w2,w3,w4,rowO more,.d (.int r.1),.d (.int r.2.1),.d (.int r.2.2)]=.ok (.at 8 []) [w0,w1,w2,w3,w4,rowO more,.d (.int r.1),.d (.int r.2.1),.d (.int r.2.2)] true:=rfl;have c1:eFz (zaq [false] zaU (zae (zaL coes .l (zae (eIx (zab 3) (zab 6)) (zae (zab 8) aNil))) aNil)) [w0,w1,w2,w3,w4,rowO more,.d (.int r.1),.d (.int r.2.1),.d (.int r.2.2)]=.ok (.own (.d (oD ((get far r.1).map (·+r.2.2))))) [w0,w1,w2,w3,w4,rowO more,.d (.int r.1),.d (.int r.2.1),.d (.int r.2.2)] false:=
  F29.zlq (zc9 (zad (zaP (zad d1 (zad n8 rfl rfl) rfl) rfl (Nat.le_of_ble_eq_true rfl) rfl) rfl rfl) rfl su (by simp[sc])) (fz_d _)
 have c2:zaq [false,false] za4 (zae (eIx (zab 5) (zab 7)) (zae (eFz (zaq [false] zaU (zae (zaL coes .l (zae (eIx (zab 3) (zab 6)) (zae (zab 8) aNil))) aNil))) aNil)) [w0,w1,w2,w3,w4,rowO more,.d (.int r.1),.d (.int r.2.1),.d (.int r.2.2)]=.ok (.own (.d (oD (lO (get more r.2.1) ((get far r.1).map (·+r.2.2)))))) [w0,w1,w2,w3,w4,rowO more,.d (.int r.1),.d (.int r.2.1),.d (.int r.2.2)] false:=
  zc9 (zad d2 (zad c1 rfl rfl) rfl) rfl le (by simp[sl])
 exact ze0 (ρ1:=[w0,w1,w2,w3,w4,rowO more,.d (.int r.1),.d (.int r.2.1),.d (.int r.2.2)]) (ρ2:=[w0,w1,w2,w3,w4,rowO more,.d (.int r.1),.d (.int r.2.1),.d (.int r.2.2)]) (v:=more) c2 rfl rfl rfl h2
theorem zfo {w0 w1 w2 w3 w4:O} {far:List (Option Int)} {n:Nat} (h3:Row far w3) (hf:far.length=n):∀(ys:List Road) (more:List (Option Int)) (z6 z7 z8:O),(∀r∈ys,(0<=r.1/\r.1 < (n:Int))/\0<=r.2.1/\r.2.1 < (n:Int))->more.length=n->
  ∃u6 u7 u8,forF (gtT (zam (gtN 6) (zam (gtN 7) (zam (gtN 8) zbD)))) zb4 ((ys.map zav).map O.d) [w0,w1,w2,w3,w4,rowO more,z6,z7,z8]=.nx [w0,w1,w2,w3,w4,rowO (ys.foldl (zec far) more),u6,u7,u8]
 | [],more,z6,z7,z8,_,_=>⟨z6,z7,z8,rfl⟩
 | r::ys,more,z6,z7,z8,hr,hl=>by
  obtain ⟨a,b⟩:=hr r List.mem_cons_self;have st:=zjb (w0:=w0) (w1:=w1) (w2:=w2) (w4:=w4) (r:=r) (more:=more) h3 (by rw[hf];exact a) (by rw[hl];exact b);obtain ⟨u6,u7,u8,lo⟩:=zfo (w0:=w0) (w1:=w1) (w2:=w2) (w4:=w4) h3 hf ys (zec far more r) (.d (.int r.1)) (.d (.int r.2.1)) (.d (.int r.2.2)) (fun r' h=>hr r' (List.mem_cons_of_mem _ h)) (by rw[zd9];exact hl);refine ⟨u6,u7,u8, ?_⟩;rw[List.map_cons,List.map_cons,forF];have g:(gtT (zam (gtN 6) (zam (gtN 7) (zam (gtN 8) zbD)))) (.d (zav r)) [w0,w1,w2,w3,w4,rowO more,z6,z7,z8]=some [w0,w1,w2,w3,w4,rowO more,.d (.int r.1),.d (.int r.2.1),.d (.int r.2.2)]:=rfl;rw[g];dsimp only;rw[st];exact lo
theorem ze5 (k:Nat):O.l ((List.replicate k PyData.none).map O.d)=rowO (List.replicate k none):=by
 unfold rowO;rw[List.map_replicate,List.map_replicate];rfl
theorem zli {n:Int} {rs:List Road} {ρ:Rho} (n0:0<=n) (n1:n<=20) (h:ρ[0]? = some (.d (netD n rs))):itR1 (eIx (zab 0) (eC (.int 0))) ρ=.ok (rngO 0 n.toNat) ρ true:=by
 have g0:=F43.zmL (n:=n) (rs:=rs) (ρ:=ρ) (j:=0) h;have ix:eIx (zab 0) (eC (.int 0)) ρ=.ok (.own (.d (.int n))) ρ (true&&true):=zck (F24.zdP h) (za1 rfl rfl rfl) rfl g0;exact zfg (za1 ix rfl rfl) (zee (by omega) (by omega)) rfl
theorem zll {n:Int} {rs:List Road} {ρ:Rho} (h:ρ[0]? = some (.d (netD n rs))):srcM false (fun ds=>ds.map O.d) (eIx (zab 0) (eC (.int 1))) ρ=.ok (((rs.map zav).map O.d,none),true) ρ (true&&true):=by
 have gn:=zho (n:=n) (rs:=rs) (ρ:=ρ) (j:=0) h;have ix:eIx (zab 0) (eC (.int 1)) ρ=.ok (.own (.d (.list (rs.map zav)))) ρ (true&&true):=zck (F24.zdP h) (za1 rfl rfl rfl) rfl gn;exact F30.zj8 ix (fz_d _)
theorem ziN {n:Int} {rs:List Road} {w1 w2 w3 w4 z5 z6 z7 z8:O} {far:List (Option Int)} (ok:zbM n rs) (h3:Row far w3) (hf:far.length=n.toNat) :
  ∃u6 u7 u8,zb6 [.d (netD n rs),w1,w2,w3,w4,z5,z6,z7,z8]=.nx [.d (netD n rs),w1,w2,.d (rowD (zcc n.toNat rs far)),w4,.d (rowD (zcc n.toNat rs far)),u6,u7,u8]:=by
 have n0:=ok.n0;have n1:=ok.n1;obtain ⟨q,e⟩:=F43.zlF (k:=n.toNat) (by omega) (zli (ρ:=[.d (netD n rs),w1,w2,w3,w4,z5,z6,z7,z8]) n0 n1 rfl);rw[ze5] at e;obtain ⟨u6,u7,u8,lo⟩:=zfo (w0:=.d (netD n rs)) (w1:=w1) (w2:=w2) (w4:=w4) h3 hf rs (List.replicate n.toNat none) z6 z7 z8 (fun r hr=>by
  obtain ⟨a,b,_⟩:=ok.rd r hr;exact ⟨by omega,by omega⟩) (by simp)
 have sr:=zll (ρ:=[.d (netD n rs),w1,w2,w3,w4,rowO (List.replicate n.toNat none),z6,z7,z8]) (n:=n) (rs:=rs) rfl;have f:=zhu (zcc n.toNat rs far);have e2:rs.foldl (zec far) (List.replicate n.toNat none)=zcc n.toNat rs far:=rfl;rw[e2] at lo;have s1:(sAsg coe (eLC (itR1 (eIx (zab 0) (eC (.int 0)))) [none] (gtN 0) (gRet true) zc3) (gtN 5)) [.d (netD n rs),w1,w2,w3,w4,z5,z6,z7,z8]=.nx [.d (netD n rs),w1,w2,w3,w4,rowO (List.replicate n.toNat none),z6,z7,z8]:=zaC e rfl rfl;have s3:(sAsg coe (zab 5) (gtN 3)) [.d (netD n rs),w1,w2,w3,w4,rowO (zcc n.toNat rs far),u6,u7,u8]=.nx [.d (netD n rs),w1,w2,.d (rowD (zcc n.toNat rs far)),w4,.d (rowD (zcc n.toNat rs far)),u6,u7,u8]:=by
  unfold rowO at *;generalize netD n rs=N at *;exact zaC rfl (zfC rfl f) rfl
 exact ⟨u6,u7,u8,L2.zas s1 (L2.zas (F30.zdM sr lo) s3)⟩
theorem zmU (ρ:Rho):zcm [false,false,false] ρ=[]:=by rcases ρ with _ | ⟨a,_ | ⟨b,_ | ⟨c,d⟩⟩⟩<;>rfl
theorem zhh {n one k:Int} {rs:List Road} (ok:zbM n rs) (h1:0<=one/\one < n) (k0:0<=k) (k1:k<=60):∃w,zb2 [.d (netD n rs),.d (.int one),.d (.int k)]=.ok w []/\Row (gone n.toNat rs one k.toNat) w:=by
 have n0:=ok.n0;have n1:=ok.n1;obtain ⟨q,e⟩:=F43.zlF (k:=n.toNat) (by omega) (zli (ρ:=[.d (netD n rs),.d (.int one),.d (.int k),.z,.z,.z,.z,.z,.z]) n0 n1 rfl);rw[ze5] at e;have s1:(sAsg coe (eLC (itR1 (eIx (zab 0) (eC (.int 0)))) [none] (gtN 0) (gRet true) zc6) (gtN 3)) [.d (netD n rs),.d (.int one),.d (.int k),.z,.z,.z,.z,.z,.z]=.nx [.d (netD n rs),.d (.int one),.d (.int k),rowO (List.replicate n.toNat none),.z,.z,.z,.z,.z]:=zaC e rfl rfl;have s2:(sSub coe (eC (.int 0)) (zab 3) (zab 1)) [.d (netD n rs),.d (.int one),.d (.int k),rowO (List.replicate n.toNat none),.z,.z,.z,.z,.z]=.nx [.d (netD n rs),.d (.int one),.d (.int k),rowO (start n.toNat one),.z,.z,.z,.z,.z]:=ze0 (A:=eC (.int 0)) (ρ1:=[.d (netD n rs),.d (.int one),.d (.int k),rowO (List.replicate n.toNat none),.z,.z,.z,.z,.z]) (ρ2:=[.d (netD n rs),.d (.int one),.d (.int k),rowO (List.replicate n.toNat none),.z,.z,.z,.z,.z]) (c:=some 0) (v:=List.replicate n.toNat none) rfl rfl rfl rfl (by simp;omega);obtain ⟨ρ',lo,w3,z4,z5,z6,z7,z8,rfl,hw⟩:=zcA (G:=gtN 4) (S:=zb6) (items:=rngO 0 k.toNat) (ρ:=[.d (netD n rs),.d (.int one),.d (.int k),rowO (start n.toNat one),.z,.z,.z,.z,.z])
  (fun t ρ=>∃w3 z4 z5 z6 z7 z8,ρ=[.d (netD n rs),.d (.int one),.d (.int k),w3,z4,z5,z6,z7,z8]/\Row (gone n.toNat rs one t) w3) ⟨_,_,_,_,_,_,rfl,.inl rfl⟩
  (fun t x ρ hx hx__=>by
   obtain ⟨w3,z4,z5,z6,z7,z8,e,hw⟩:=hx__;subst e;obtain ⟨hi,rfl⟩:=zcy hx;obtain ⟨u6,u7,u8,st⟩:=ziN (w1:=.d (.int one)) (w2:=.d (.int k)) (w4:=.d (.int (0+t))) (z5:=z5) (z6:=z6) (z7:=z7) (z8:=z8) ok hw (zdK _ _ _ _);exact ⟨_,_,rfl,st,_,_,_,_,_,_,rfl,.inr rfl⟩)
 rw[zb1] at hw;have ok3:okR k=true:=zee (by omega) (by omega);refine ⟨w3, ?_,hw⟩;have rt:∃ρ2,(sRet mov (zab 3)) [.d (netD n rs),.d (.int one),.d (.int k),w3,z4,z5,z6,z7,z8]=.rt w3 ρ2:=by
  rcases hw with rfl | rfl
  .unfold rowO;exact ⟨_,zbX rfl rfl⟩
  .exact ⟨_,zbX rfl rfl⟩
 obtain ⟨ρ2,rt⟩:=rt;refine Eq.trans ?_ (congrArg (Rc.ok _) (zmU ρ2));exact zfI (ms:=[false,false,false]) (n:=9) (S:=zcK) (os:=[.d (netD n rs),.d (.int one),.d (.int k)]) (L2.zas s1 (L2.zas s2 (L2.zas (zfi (zfg (za1 rfl rfl rfl) ok3 rfl) lo) rt)))
def zbT (w:Int×Int):PyData:=.tuple [.int w.1,.int w.2]
def Lst (ds:List PyData) (w:O):Prop:=w=.l (ds.map O.d)\/w=.d (.list ds)
theorem Lst.src {ds:List PyData} {w:O} {ρ:Rho} {k:Nat} (h:Lst ds w) (hk:ρ[k]? = some w) (hl:k < ρ.length):srcM false (fun ds=>ds.map O.d) (zab k) ρ=.ok ((ds.map O.d,none),true) (ρ.set k (.d (.list ds))) true:=by
 rcases h with rfl | rfl
 .have nm:zab k ρ=.ok (.at k []) ρ true:=by unfold zab;rw[hk]
  have c:coe ρ (.at k [])=some (.d (.list ds),ρ.set k (.d (.list ds))):=zfC hk (zgQ ds);unfold srcM;rw[nm];simp only[Re.bind,Bool.false_eq_true,if_false];unfold cov;rw[c];rfl
 .have e:ρ.set k (.d (.list ds))=ρ:=by
   apply List.ext_getElem?;intro j
   by_cases z:k=j
   .subst z;rw[List.getElem?_set_self hl,hk]
   .rw[List.getElem?_set_ne z]
  rw[e];have c:coe ρ (.at k [])=some (.d (.list ds),ρ):=by simp[coe,hk,sub]
  unfold srcM;rw[F24.zdP hk];simp only[Re.bind,Bool.false_eq_true,if_false];unfold cov;rw[c];rfl
theorem zkk {a b:List PyData} (h:a.length+b.length<=16777216):fAdd (.l (a.map O.d)) (.l (b.map O.d))=some (.l ((a++b).map O.d)):=by
 have hz:a.length+b.length<=sizeLine:=zbx h;simp only[fAdd,els,zfJ];rw[if_pos hz]
theorem zl1 {n:Int} {rs:List Road} {w1 w2 w3 w4 w5 w6:O} (w:Int×Int) (hl:rs.length<=60) :
  ∃q,eLS (srcM true (fun ds=>ds.map O.d) (eIx (zab 0) (eC (.int 1)))) [none,some 8,some 7] (gtN 0) za6 zba [.d (netD n rs),w1,w2,w3,w4,w5,w6,.d (.int w.1),.d (.int w.2)]=.ok (.own (.l (((zdc rs w).map zbT).map O.d))) [.d (netD n rs),w1,w2,w3,w4,w5,w6,.d (.int w.1),.d (.int w.2)] q:=by
 obtain ⟨q,e⟩:=zeB (js:=[none,some 8,some 7]) (G:=gtN 0) (T:=za6) (A:=zba) (ρ:=[.d (netD n rs),w1,w2,w3,w4,w5,w6,.d (.int w.1),.d (.int w.2)]) (fun o=>match o with | .d (.tuple [.int a,_,_])=>decide (a=w.1) | _=>false) (fun o=>match o with | .d (.tuple [_,.int b,.int l])=>.d (zbT (b,w.2+l)) | _=>.z) (items:=(rs.map zav).map O.d) (acc:=[]) (q:=true) (fun y hy=>by
  rw[List.map_map] at hy;obtain ⟨r,hr,rfl⟩:=List.mem_map.mp hy;have fe:fEq false (.d (.int r.1)) (.d (.int w.1))=some (.d (.bool (decide (r.1=w.1)))):=by simp;rfl
  have t:za6 [.d (zav r),.d (.int w.2),.d (.int w.1)]=.ok (decide (r.1=w.1)) [.d (zav r),.d (.int w.2),.d (.int w.1)] true:=za0 (q:=true) (zaD (q1:=true) (q2:=true) (zck (q1:=true) (q2:=true) rfl (za1 rfl rfl rfl) rfl (show gIx [.d (zav r),.d (.int w.2),.d (.int w.1)] (.at 0 []) 0=some (.own (.d (.int r.1))) from rfl)) rfl rfl rfl rfl fe) rfl;have g1:gIx [.d (zav r),.d (.int w.2),.d (.int w.1)] (.at 0 []) 1=some (.own (.d (.int r.2.1))):=rfl;have g2:gIx [.d (zav r),.d (.int w.2),.d (.int w.1)] (.at 0 []) 2=some (.own (.d (.int r.2.2))):=rfl;have m:mkT [.d (.int r.2.1),.d (.int (w.2+r.2.2))]=.d (zbT (r.2.1,w.2+r.2.2)):=rfl;refine ⟨[.d (zav r),.d (.int w.2),.d (.int w.1)],[.d (zav r),.d (.int w.2),.d (.int w.1)],true,rfl,t,fun _=>?_,fun _=>rfl⟩;have a:∃q,zba [.d (zav r),.d (.int w.2),.d (.int w.1)]=.ok (.own (.d (zbT (r.2.1,w.2+r.2.2)))) [.d (zav r),.d (.int w.2),.d (.int w.1)] q:=by
   generalize zav r=R at *;exact ⟨_,zaP (zad (zck rfl (za1 rfl rfl rfl) rfl g1) (zad (zaD rfl (zck rfl (za1 rfl rfl rfl) rfl g2) rfl rfl rfl rfl) rfl rfl) rfl) rfl (Nat.le_of_ble_eq_true rfl) m⟩
  obtain ⟨q,a⟩:=a;exact ⟨_,_,q,_,a,rfl,rfl⟩)
 have em:(((rs.map zav).map O.d).filter (fun o=>match o with | .d (.tuple [.int a,_,_])=>decide (a=w.1) | _=>false)).map (fun o=>match o with | .d (.tuple [_,.int b,.int l])=>.d (zbT (b,w.2+l)) | _=>.z)=((zdc rs w).map zbT).map O.d:=by
  unfold zdc;rw[List.map_map,List.filter_map,List.map_map,List.map_map,List.map_map];rfl
 rw[List.nil_append,em] at e;have gn:=zho (n:=n) (rs:=rs) (ρ:=[.d (netD n rs),w1,w2,w3,w4,w5,w6,.d (.int w.1),.d (.int w.2)]) (j:=0) rfl;have ix:eIx (zab 0) (eC (.int 1)) [.d (netD n rs),w1,w2,w3,w4,w5,w6,.d (.int w.1),.d (.int w.2)]=.ok (.own (.d (.list (rs.map zav)))) [.d (netD n rs),w1,w2,w3,w4,w5,w6,.d (.int w.1),.d (.int w.2)] (true&&true):=zck (F24.zdP rfl) (za1 rfl rfl rfl) rfl gn;have es:srcM true (fun ds=>ds.map O.d) (eIx (zab 0) (eC (.int 1))) [.d (netD n rs),w1,w2,w3,w4,w5,w6,.d (.int w.1),.d (.int w.2)]=.ok (((rs.map zav).map O.d,none),true) [.d (netD n rs),w1,w2,w3,w4,w5,w6,.d (.int w.1),.d (.int w.2)] (true&&true):=by
  unfold srcM;rw[ix];simp[zej,cov]
 exact ⟨_,F24.zkI es (zbx (by simp;omega)) e rfl⟩
theorem zeO {n:Int} {rs:List Road} {w1 w2 w3 w4 w5:O} (hl:rs.length<=60):∀(ws xs:List (Int×Int)) (z7 z8:O),xs.length+ws.length * 60<=1000000->
  ∃u7 u8,forF (gtT (zam (gtN 7) (zam (gtN 8) zbD))) zbA ((ws.map zbT).map O.d) [.d (netD n rs),w1,w2,w3,w4,w5,.l ((xs.map zbT).map O.d),z7,z8]=.nx [.d (netD n rs),w1,w2,w3,w4,w5,.l (((xs++ws.flatMap (zdc rs)).map zbT).map O.d),u7,u8]
 | [],xs,z7,z8,_=>⟨z7,z8,by simp[forF]⟩
 | w::ws,xs,z7,z8,h=>by
  obtain ⟨q,e⟩:=zl1 (n:=n) (rs:=rs) (w1:=w1) (w2:=w2) (w3:=w3) (w4:=w4) (w5:=w5) (w6:=.l ((xs.map zbT).map O.d)) w hl;have ml:(zdc rs w).length<=60:=by
   unfold zdc;rw[List.length_map];exact Nat.le_trans (List.length_filter_le _ _) hl
  rw[List.length_cons] at h;have fa:=zkk (a:=xs.map zbT) (b:=(zdc rs w).map zbT) (by simp;omega);rw[<-List.map_append] at fa;obtain ⟨u7,u8,lo⟩:=zeO (n:=n) (w1:=w1) (w2:=w2) (w3:=w3) (w4:=w4) (w5:=w5) hl ws (xs++zdc rs w) (.d (.int w.1)) (.d (.int w.2)) (by rw[List.length_append];omega);refine ⟨u7,u8, ?_⟩;rw[List.map_cons,List.map_cons,forF];have g:(gtT (zam (gtN 7) (zam (gtN 8) zbD))) (.d (zbT w)) [.d (netD n rs),w1,w2,w3,w4,w5,.l ((xs.map zbT).map O.d),z7,z8]=some [.d (netD n rs),w1,w2,w3,w4,w5,.l ((xs.map zbT).map O.d),.d (.int w.1),.d (.int w.2)]:=rfl;rw[g];dsimp only;have st:zbA [.d (netD n rs),w1,w2,w3,w4,w5,.l ((xs.map zbT).map O.d),.d (.int w.1),.d (.int w.2)]=.nx [.d (netD n rs),w1,w2,w3,w4,w5,.l (((xs++zdc rs w).map zbT).map O.d),.d (.int w.1),.d (.int w.2)]:=by
   generalize (xs.map zbT).map O.d=X at *;generalize ((zdc rs w).map zbT).map O.d=Y at *;generalize ((xs++zdc rs w).map zbT).map O.d=Z at *;generalize netD n rs=N at *;exact zaC (zaD rfl e rfl rfl rfl fa) rfl rfl
  rw[st,List.flatMap_cons,<-List.append_assoc];exact lo
theorem zi6 {n:Int} {rs:List Road} {w1 w2 w3 w4 w5 z6 z7 z8:O} {ws:List (Int×Int)} (hl:rs.length<=60) (h4:Lst (ws.map zbT) w4) (hw:ws.length<=10000) :
  ∃u7 u8,zbv [.d (netD n rs),w1,w2,w3,w4,w5,z6,z7,z8]=.nx [.d (netD n rs),w1,w2,w3,.d (.list ((ws.flatMap (zdc rs)).map zbT)),w5,.d (.list ((ws.flatMap (zdc rs)).map zbT)),u7,u8]:=by
 have sr:=h4.src (ρ:=[.d (netD n rs),w1,w2,w3,w4,w5,.l [],z7,z8]) (k:=4) rfl (Nat.lt_of_sub_eq_succ rfl);obtain ⟨u7,u8,lo⟩:=zeO (n:=n) (w1:=w1) (w2:=w2) (w3:=w3) (w4:=.d (.list (ws.map zbT))) (w5:=w5) hl ws [] z7 z8 (by simp;omega);rw[List.nil_append] at lo;have f:=zgQ ((ws.flatMap (zdc rs)).map zbT);refine ⟨u7,u8,L2.zas (zaC (zaP rfl rfl (Nat.le_of_ble_eq_true rfl) rfl) rfl rfl) (L2.zas (F30.zdM sr lo) ?_)⟩;generalize ((ws.flatMap (zdc rs)).map zbT).map O.d=X at *;generalize netD n rs=N at *;exact zaC rfl (zfC rfl f) rfl
theorem zfk {w0 w1 w2 w4 w5 w6:O} {n:Nat}:∀(ws:List (Int×Int)) (f:List (Option Int)) (z7 z8:O),(∀w∈ws,0<=w.1/\w.1 < (n:Int))->f.length=n->
  ∃u7 u8,forF (gtT (zam (gtN 7) (zam (gtN 8) zbD))) zbz ((ws.map zbT).map O.d) [w0,w1,w2,rowO f,w4,w5,w6,z7,z8]=.nx [w0,w1,w2,rowO (ws.foldl zdq f),w4,w5,w6,u7,u8]
 | [],f,z7,z8,_,_=>⟨z7,z8,rfl⟩
 | w::ws,f,z7,z8,hi,hl=>by
  have h1:=hi w List.mem_cons_self;have rd:=rd_O (ρ:=[w0,w1,w2,rowO f,w4,w5,w6,.d (.int w.1),.d (.int w.2)]) (k:=3) (b:=7) rfl rfl (by rw[hl];exact h1);have le:=F32.zjs (get f w.1) (some w.2);have sl:=F30.zjN (lO (get f w.1) (some w.2));have n8:zab 8 [w0,w1,w2,rowO f,w4,w5,w6,.d (.int w.1),.d (.int w.2)]=.ok (.at 8 []) [w0,w1,w2,rowO f,w4,w5,w6,.d (.int w.1),.d (.int w.2)] true:=rfl;have c2:zaq [false,false] za4 (zae (eIx (zab 3) (zab 7)) (zae (zab 8) aNil)) [w0,w1,w2,rowO f,w4,w5,w6,.d (.int w.1),.d (.int w.2)]=.ok (.own (.d (oD (lO (get f w.1) (some w.2))))) [w0,w1,w2,rowO f,w4,w5,w6,.d (.int w.1),.d (.int w.2)] false:=
   zc9 (zad rd (zad n8 rfl rfl) rfl) rfl le (by simp[sl])
  have st:zbz [w0,w1,w2,rowO f,w4,w5,w6,.d (.int w.1),.d (.int w.2)]=.nx [w0,w1,w2,rowO (zdq f w),w4,w5,w6,.d (.int w.1),.d (.int w.2)]:=
   ze0 (ρ1:=[w0,w1,w2,rowO f,w4,w5,w6,.d (.int w.1),.d (.int w.2)]) (ρ2:=[w0,w1,w2,rowO f,w4,w5,w6,.d (.int w.1),.d (.int w.2)]) (v:=f) c2 rfl rfl rfl (by rw[hl];exact h1)
  obtain ⟨u7,u8,lo⟩:=zfk (w0:=w0) (w1:=w1) (w2:=w2) (w4:=w4) (w5:=w5) (w6:=w6) (n:=n) ws (zdq f w) (.d (.int w.1)) (.d (.int w.2)) (fun v hv=>hi v (List.mem_cons_of_mem _ hv)) (by simp[zdq,hl]);refine ⟨u7,u8, ?_⟩;rw[List.map_cons,List.map_cons,forF];have g:(gtT (zam (gtN 7) (zam (gtN 8) zbD))) (.d (zbT w)) [w0,w1,w2,rowO f,w4,w5,w6,z7,z8]=some [w0,w1,w2,rowO f,w4,w5,w6,.d (.int w.1),.d (.int w.2)]:=rfl;rw[g];dsimp only;rw[st];exact lo
theorem zgS {n one k:Int} {rs:List Road} (ok:zbM n rs) (h1:0<=one/\one < n) (k0:0<=k) (k1:k < 3):zaZ [.d (netD n rs),.d (.int one),.d (.int k)]=.ok (rowO (gone n.toNat rs one k.toNat)) []:=by
 have n0:=ok.n0;have n1:=ok.n1;have rl:=ok.len;have wl:∀t:Nat,t<=2->(zed rs one t).length<=3600:=fun t ht=>by
  refine Nat.le_trans (zhx rs one t) ?_;have a:rs.length ^ t<=60 ^ t:=Nat.pow_le_pow_left rl t;have b:(60:Nat) ^ t<=60 ^ 2:=Nat.pow_le_pow_right (by decide) ht;exact Nat.le_trans a b
 obtain ⟨q,e⟩:=F43.zlF (k:=n.toNat) (by omega) (zli (ρ:=[.d (netD n rs),.d (.int one),.d (.int k),.z,.z,.z,.z,.z,.z]) n0 n1 rfl);rw[ze5] at e;have s1:(sAsg coe (eLC (itR1 (eIx (zab 0) (eC (.int 0)))) [none] (gtN 0) (gRet true) zcn) (gtN 3)) [.d (netD n rs),.d (.int one),.d (.int k),.z,.z,.z,.z,.z,.z]=.nx [.d (netD n rs),.d (.int one),.d (.int k),rowO (List.replicate n.toNat none),.z,.z,.z,.z,.z]:=zaC e rfl rfl;have s2:(sAsg coe (zaL coes .l (zae (zaL coes mkT (zae (zab 1) (zae (eC (.int 0)) aNil))) aNil)) (gtN 4)) [.d (netD n rs),.d (.int one),.d (.int k),rowO (List.replicate n.toNat none),.z,.z,.z,.z,.z]=.nx [.d (netD n rs),.d (.int one),.d (.int k),rowO (List.replicate n.toNat none),.l [.d (.tuple [.int one,.int 0])],.z,.z,.z,.z]:=zaC (zaP (zad (zaP (zad rfl (zad rfl rfl rfl) rfl) rfl (Nat.le_of_ble_eq_true rfl) rfl) rfl rfl) rfl (Nat.le_of_ble_eq_true rfl) rfl) rfl rfl;obtain ⟨ρ',lo,w4,z5,z6,z7,z8,rfl,hw⟩:=zcA (G:=gtN 5) (S:=zbv) (items:=rngO 0 k.toNat) (ρ:=[.d (netD n rs),.d (.int one),.d (.int k),rowO (List.replicate n.toNat none),.l [.d (.tuple [.int one,.int 0])],.z,.z,.z,.z])
  (fun t ρ=>∃w4 z5 z6 z7 z8,ρ=[.d (netD n rs),.d (.int one),.d (.int k),rowO (List.replicate n.toNat none),w4,z5,z6,z7,z8]/\Lst ((zed rs one t).map zbT) w4) ⟨_,_,_,_,_,rfl,.inl rfl⟩
  (fun t x ρ hx hx__=>by
   obtain ⟨w4,z5,z6,z7,z8,e,hw⟩:=hx__;subst e;obtain ⟨hi,rfl⟩:=zcy hx;obtain ⟨u7,u8,st⟩:=zi6 (n:=n) (w1:=.d (.int one)) (w2:=.d (.int k)) (w3:=rowO (List.replicate n.toNat none)) (w5:=.d (.int (0+t))) (z6:=z6) (z7:=z7) (z8:=z8) rl hw (by have:=wl t (by omega);omega);exact ⟨_,_,rfl,st,_,_,_,_,_,rfl,.inr rfl⟩)
 rw[zb1] at hw;have sr:=hw.src (ρ:=[.d (netD n rs),.d (.int one),.d (.int k),rowO (List.replicate n.toNat none),w4,z5,z6,z7,z8]) (k:=4) rfl (Nat.lt_of_sub_eq_succ rfl);obtain ⟨u7,u8,fl⟩:=zfk (w0:=.d (netD n rs)) (w1:=.d (.int one)) (w2:=.d (.int k)) (w4:=.d (.list ((zed rs one k.toNat).map zbT))) (w5:=z5) (w6:=z6) (n:=n.toNat) (zed rs one k.toNat) (List.replicate n.toNat none) z7 z8 (fun w hw=>by
  have:=ziK ok h1 ((zdO k.toNat w.1 w.2).mp hw)
  omega) (by simp)
 rw[zmz ok h1] at fl;have ok3:okR k=true:=zee (by omega) (by omega);have rt:∃ρ2,(sRet mov (zab 3)) [.d (netD n rs),.d (.int one),.d (.int k),rowO (gone n.toNat rs one k.toNat),.d (.list ((zed rs one k.toNat).map zbT)),z5,z6,u7,u8]=.rt (rowO (gone n.toNat rs one k.toNat)) ρ2:=by
  unfold rowO;exact ⟨_,zbX rfl rfl⟩
 obtain ⟨ρ2,rt⟩:=rt;refine Eq.trans ?_ (congrArg (Rc.ok _) (zmU ρ2));exact zfI (ms:=[false,false,false]) (n:=9) (S:=zbV) (os:=[.d (netD n rs),.d (.int one),.d (.int k)]) (L2.zas s1 (L2.zas s2 (L2.zas (zfi (zfg (za1 rfl rfl rfl) ok3 rfl) lo) (L2.zas (F30.zdM sr fl) rt))))
section
variable {N Iw Td:PyData} {p q k x:Int} {no os os':List O}
theorem zlz (cp:zaM [.d N]=.ok (.t no) []) (ct:zaG [.d N,.d (.int p),.d (.int q),.d (.int k)]=.ok (.d .none) []) (nf:fEq false (.d N) (.t no)=some (.d (.bool true))):∃ρ',za5 [.d N,.d (.int p),.d (.int q),.d (.int k),.d .none,.z,.z,.z,.z,.z]=.rt (.d (.bool true)) ρ':=by
 have s0:(sAsg coe (zaq [false] zaM (zae (zab 0) aNil)) (gtN 5)) [.d N,.d (.int p),.d (.int q),.d (.int k),.d .none,.z,.z,.z,.z,.z]=.nx [.d N,.d (.int p),.d (.int q),.d (.int k),.d .none,.t no,.z,.z,.z,.z]:=zaC (zaO (zad rfl rfl rfl) rfl cp rfl rfl) rfl rfl;have s1:(sAsg coe (zaq [false,false,false,false] zaG (zae (zab 0) (zae (zab 1) (zae (zab 2) (zae (zab 3) aNil))))) (gtN 6)) [.d N,.d (.int p),.d (.int q),.d (.int k),.d .none,.t no,.z,.z,.z,.z]=.nx [.d N,.d (.int p),.d (.int q),.d (.int k),.d .none,.t no,.d .none,.z,.z,.z]:=zaC (zc9 (zad rfl (zad rfl (zad rfl (zad rfl rfl rfl) rfl) rfl) rfl) rfl ct rfl) rfl rfl;exact ⟨_,L2.zas s0 (L2.zas s1 (L2.zgD (if_t (za0 (zaD rfl rfl rfl rfl rfl rfl) rfl) (zbX (zit (za1 (zaD rfl rfl rfl rfl rfl rfl) rfl rfl) (za1 (zaD rfl rfl rfl rfl rfl nf) rfl rfl)) rfl))))⟩
theorem zlH (cp:zaM [.d N]=.ok (.t no) []) (ct:zaG [.d N,.d (.int p),.d (.int q),.d (.int k)]=.ok (.t [.d (.int x),.l os]) []) (nf:fEq false (.d N) (.t no)=some (.d (.bool true)))
  (ft:fz (.t [.d (.int x),.l os])=some Td) (fo:fz (.l os)=some Iw) (hx:zaQ [.d (.int x)]=.ok (.d (.bool true)) []) (hw:zaW [.d Iw]=.ok (.d (.bool true)) [])
  (xx:fEq true (.d (.int x)) (.d (.int x))=some (.d (.bool false))) (ln:f1 fLen [.l os]=some (.d (.int k))) (kk:fEq true (.d (.int k)) (.d (.int k))=some (.d (.bool false)))
  (iw:zaV [.d N,.d (.int p),.d (.int q),.d Iw]=.ok (.d (.bool true)) []) (lg:zbh [.d N,.d Iw]=.ok (.d (.int x)) [])
  (fl:f1 zeF [.l os]=some (.l os)) (pu:L2.zdz [.d N,.d (.int p),.d (.int q),.d (.int k),.d (.int x),.t no,.z,.d (.int x),.l os,.l os] (.at 8 []) (fun os=>if os.length < sizeLine then some (os++[.d (.int 0)]) else none)=some [.d N,.d (.int p),.d (.int q),.d (.int k),.d (.int x),.t no,.z,.d (.int x),.l os',.l os])
  (fe:fEq false (.t [.d (.int x),.l os]) (.d (.tuple [.int x,Iw]))=some (.d (.bool true))):∃ρ',za5 [.d N,.d (.int p),.d (.int q),.d (.int k),.d (.int x),.z,.z,.z,.z,.z]=.rt (.d (.bool true)) ρ':=by
 have c1:coe [.d N,.d (.int p),.d (.int q),.d (.int k),.d (.int x),.t no,.t [.d (.int x),.l os],.z,.z,.z] (.at 6 [1])=some (.d Iw,[.d N,.d (.int p),.d (.int q),.d (.int k),.d (.int x),.t no,.d Td,.z,.z,.z]):=by
  simp[coe,sub,ft,fo]
 have g0:gIx [.d N,.d (.int p),.d (.int q),.d (.int k),.d (.int x),.t no,.t [.d (.int x),.l os],.z,.z,.z] (.at 6 []) 0=some (.own (.d (.int x))):=rfl;have g1:gIx [.d N,.d (.int p),.d (.int q),.d (.int k),.d (.int x),.t no,.t [.d (.int x),.l os],.z,.z,.z] (.at 6 []) 1=some (.at 6 [1]):=rfl;have hi:fIsi "tuple" (.t [.d (.int x),.l os])=some (.d (.bool true)):=rfl;have s0:(sAsg coe (zaq [false] zaM (zae (zab 0) aNil)) (gtN 5)) [.d N,.d (.int p),.d (.int q),.d (.int k),.d (.int x),.z,.z,.z,.z,.z]=.nx [.d N,.d (.int p),.d (.int q),.d (.int k),.d (.int x),.t no,.z,.z,.z,.z]:=zaC (zaO (zad rfl rfl rfl) rfl cp rfl rfl) rfl rfl;have s1:(sAsg coe (zaq [false,false,false,false] zaG (zae (zab 0) (zae (zab 1) (zae (zab 2) (zae (zab 3) aNil))))) (gtN 6)) [.d N,.d (.int p),.d (.int q),.d (.int k),.d (.int x),.t no,.z,.z,.z,.z]=.nx [.d N,.d (.int p),.d (.int q),.d (.int k),.d (.int x),.t no,.t [.d (.int x),.l os],.z,.z,.z]:=zaC (zaO (zad rfl (zad rfl (zad rfl (zad rfl rfl rfl) rfl) rfl) rfl) rfl ct rfl rfl) rfl rfl;have s2:(sIf (tst (e2 (zab 4) (eC .none) (fIs false))) (sRet mov (eAnd (e2 (zab 6) (eC .none) (fIs false)) (e2 (zab 0) (zab 5) (fEq false)))) sNil) [.d N,.d (.int p),.d (.int q),.d (.int k),.d (.int x),.t no,.t [.d (.int x),.l os],.z,.z,.z]=.nx [.d N,.d (.int p),.d (.int q),.d (.int k),.d (.int x),.t no,.t [.d (.int x),.l os],.z,.z,.z]:=if_f (za0 (zaD rfl rfl rfl rfl rfl rfl) rfl) rfl;have s3:(sIf (gOr (gNot (eSc trV (e1 (zab 6) (fIsi "tuple")))) (gOr (tst (e2 (eB (zae (zab 6) aNil) (f1 fLen)) (eC (.int 2)) (fEq true))) (gOr (gNot (eSc trV (zaq [false] zaQ (zae (eIx (zab 6) (eC (.int 0))) aNil)))) (gNot (eSc trV (zaq [false] zaW (zae (eIx (zab 6) (eC (.int 1))) aNil))))))) (sRet mov (eC (.bool false))) sNil) [.d N,.d (.int p),.d (.int q),.d (.int k),.d (.int x),.t no,.t [.d (.int x),.l os],.z,.z,.z]=.nx [.d N,.d (.int p),.d (.int q),.d (.int k),.d (.int x),.t no,.t [.d (.int x),.l os],.z,.z,.z]:=if_f (or_f (zic (za1 (znF rfl rfl hi) rfl rfl)) (or_f (za0 (zaD (zgK (zad rfl rfl rfl) rfl rfl) rfl rfl rfl rfl rfl) rfl) (or_f (zic (za1 (zc9 (zad (zck rfl (za1 rfl rfl rfl) rfl g0) rfl rfl) rfl hx rfl) rfl rfl)) (zic (za1 (zc9 (zad (zck rfl (za1 rfl rfl rfl) rfl g1) rfl rfl) (zcE c1 rfl) hw rfl) rfl rfl))))) rfl;have s4:(sAsg mov (zab 6) (gtT (zam (gtN 7) (zam (gtN 8) zbD)))) [.d N,.d (.int p),.d (.int q),.d (.int k),.d (.int x),.t no,.t [.d (.int x),.l os],.z,.z,.z]=.nx [.d N,.d (.int p),.d (.int q),.d (.int k),.d (.int x),.t no,.z,.d (.int x),.l os,.z]:=zaC rfl rfl rfl;have s5:(sIf (gOr (tst (e2 (zab 7) (zab 4) (fEq true))) (gOr (tst (e2 (eB (zae (zab 8) aNil) (f1 fLen)) (zab 3) (fEq true))) (gOr (gNot (eSc trV (zaq [false,false,false,false] zaV (zae (zab 0) (zae (zab 1) (zae (zab 2) (zae (zab 8) aNil))))))) (tst (e2 (zaq [false,false] zbh (zae (zab 0) (zae (zab 8) aNil))) (zab 4) (fEq true)))))) (sRet mov (eC (.bool false))) sNil) [.d N,.d (.int p),.d (.int q),.d (.int k),.d (.int x),.t no,.z,.d (.int x),.l os,.z]=.nx [.d N,.d (.int p),.d (.int q),.d (.int k),.d (.int x),.t no,.z,.d (.int x),.l os,.z]:=if_f (or_f (za0 (zaD rfl rfl rfl rfl rfl xx) rfl) (or_f (za0 (zaD (zgK (zad rfl rfl rfl) rfl ln) rfl rfl rfl rfl kk) rfl) (or_f (zic (za1 (zc9 (zad rfl (zad rfl (zad rfl (zad rfl rfl rfl) rfl) rfl) rfl) (zcE rfl (zcE rfl (zcE rfl (zcE (zfC rfl fo) rfl)))) iw rfl) rfl rfl)) (za0 (zaD (zc9 (zad rfl (zad rfl rfl rfl) rfl) (zcE rfl (zcE (zfC rfl fo) rfl)) lg rfl) rfl rfl rfl rfl xx) rfl)))) rfl;have s6:(sAsg coe (eB (zae (zab 8) aNil) (f1 zeF)) (gtN 9)) [.d N,.d (.int p),.d (.int q),.d (.int k),.d (.int x),.t no,.z,.d (.int x),.l os,.z]=.nx [.d N,.d (.int p),.d (.int q),.d (.int k),.d (.int x),.t no,.z,.d (.int x),.l os,.l os]:=zaC (zgK (zad rfl rfl rfl) rfl fl) rfl rfl;have s7:(zcW (eApp (zab 8) (eC (.int 0)))) [.d N,.d (.int p),.d (.int q),.d (.int k),.d (.int x),.t no,.z,.d (.int x),.l os,.l os]=.nx [.d N,.d (.int p),.d (.int q),.d (.int k),.d (.int x),.t no,.z,.d (.int x),.l os',.l os]:=zd2 (zgi rfl rfl rfl rfl rfl pu);exact ⟨_,L2.zas s0 (L2.zas s1 (L2.zas s2 (L2.zas s3 (L2.zas s4 (L2.zas s5 (L2.zas s6 (L2.zas s7 (zbX (zit (za1 (zaD (zaO (zad rfl (zad rfl (zad rfl (zad rfl rfl rfl) rfl) rfl) rfl) rfl ct rfl rfl) (zaP (zad rfl (zad rfl rfl rfl) rfl) (zkK rfl (zkK (zfC rfl fo) rfl)) (Nat.le_of_ble_eq_true rfl) rfl) rfl rfl rfl fe) rfl rfl) (za1 (zaD rfl rfl rfl rfl rfl nf) rfl rfl)) rfl))))))))⟩
end
theorem zpb (ρ:Rho):zcm [false,false,false,false,false] ρ=[]:=by
 rcases ρ with _ | ⟨a,_ | ⟨b,_ | ⟨c,_ | ⟨d,_ | ⟨e,f⟩⟩⟩⟩⟩<;>rfl
theorem zjW {n one other k:Int} {rs:List Road} (ok:zbM n rs) (T:Taut rs) (h1:0<=one/\one < n) (h2:0<=other/\other < n) (k0:0<=k) (k1:k<=60):zbQ [.d (netD n rs),.d (.int one),.d (.int other),.d (.int k),.d (oD (get (gone n.toNat rs one k.toNat) other))]=.ok (.d (.bool true)) []:=by
 have cp:=zlG ok;have sn:=zii (n:=n) (rs:=rs);have nf:=zfQ (fz_d (netD n rs)) (zkT n rs) sn.1 sn.2 false;have fin:∀w ρ',za5 [.d (netD n rs),.d (.int one),.d (.int other),.d (.int k),w,.z,.z,.z,.z,.z]=.rt (.d (.bool true)) ρ'->zbQ [.d (netD n rs),.d (.int one),.d (.int other),.d (.int k),w]=.ok (.d (.bool true)) []:=fun w ρ' h=>by
  refine Eq.trans ?_ (congrArg (Rc.ok _) (zpb ρ'));exact zfI (ms:=[false,false,false,false,false]) (n:=10) (S:=za5) (os:=[.d (netD n rs),.d (.int one),.d (.int other),.d (.int k),w]) h
 rcases zif ok T h1 h2 k0 k1 with ⟨e,ct⟩ | ⟨x,W,e,lW,ld,wl,ct⟩
 .rw[e];obtain ⟨ρ',st⟩:=zlz cp ct nf;exact fin _ ρ' st
 .rw[e];have fo:=ziE W;have ft:fz (.t [.d (.int x),zaA W])=some (.tuple [.int x,.list (W.map .int)]):=by
   generalize zaA W=y at *;generalize W.map PyData.int=z at *;simp[fz,fzs,fo]
  have li:=F43.zhi W;have cl:(PyData.tuple [.int x,.list (W.map .int)]).canLay0=true:=by simp[PyData.canLay0,PyData.canLayAll0,li.1]
  have sh:SeqAt.shaped (.tuple [.int x,.list (W.map .int)])=true:=by
   simp only[SeqAt.shaped,cl,Bool.true_and,decide_eq_true_eq];simp[PyData.depth,PyData.depthAll,li.2]
  have hw:=ziI (ws:=W) (by omega);have hl:=zlg (n:=n) (ws:=W) (by omega) (zhv ld);rw[wl] at hl;have iw:=zji (n:=n) ld;have fe:=zfQ ft (fz_d (.tuple [.int x,.list (W.map .int)])) sh (zeL _ cl) false;have xx:fEq true (.d (.int x)) (.d (.int x))=some (.d (.bool false)):=by simp
  have kk:fEq true (.d (.int k)) (.d (.int k))=some (.d (.bool false)):=by simp
  have ln:f1 fLen [zaA W]=some (.d (.int k)):=by
   unfold zaA;simp[f1,fLen,els];omega
  have hm:W.map (fun r=>O.d (.int r))=(W.map PyData.int).map O.d:=by rw[List.map_map];rfl
  have fl:f1 zeF [zaA W]=some (zaA W):=by
   unfold zaA;rw[hm];exact zlK _
  have lt:(W.map fun r=>O.d (.int r)).length < sizeLine:=zeq (by simp;omega);unfold zaA zeI netO zaJ at *;obtain ⟨ρ',st⟩:=zlH cp ct nf ft fo (zhL x) hw xx ln kk iw hl fl (zds rfl lt) fe;exact fin _ ρ' st
def zgl (n:Int) (rs:List Road) (w:O):Prop:=w=netO n rs\/w=.d (netD n rs)
theorem zlR (rs:List Road):∃ys:List Road,cutD (rs.map zav) none (some 2)=ys.map zav/\(∀y∈ys,y∈rs)/\ys.length<=rs.length:=by
 unfold cutD;rw[<-List.map_drop,<-List.map_take];refine ⟨_,rfl,fun y hy=>List.mem_of_mem_drop (List.mem_of_mem_take hy), ?_⟩;rw[List.length_take,List.length_drop];omega
theorem zf3 {n:Int} {rs:List Road} {ρ:Rho} {w:O} {A:EF} {c:Road->Int} (hw:zgl n rs w) (h3:ρ[3]? = some w) (hl:rs.length<=60) (hb:zcB [none] [.z] (clrR [none] ρ)=ρ) (hA:∀r:Road,∃q,A [.d (zav r)]=.ok (.own (.d (.int (c r)))) [.d (zav r)] q) :
  ∃(ys:List Road) (q:Bool),eLS (srcM true (fun ds=>ds.map O.d) (eSl (eIx (zab 3) (eC (.int 1))) oNo (zeW (eC (.int 2))))) [none] (gtN 0) (gRet true) A ρ=.ok (.own (zaA (ys.map c))) ρ q/\(∀y∈ys,y∈rs)/\ys.length<=60:=by
 obtain ⟨ys,cut,hy,ly⟩:=zlR rs;obtain ⟨q,e⟩:=zeB (js:=[none]) (G:=gtN 0) (T:=gRet true) (A:=A) (ρ:=ρ) (fun _=>true) (fun o=>match o with | .d (.tuple [.int a,.int b,.int l])=>.d (.int (c (a,b,l))) | _=>.z) (items:=(ys.map zav).map O.d) (acc:=[]) (q:=true) (fun y hy=>by
  rw[List.map_map] at hy;obtain ⟨r,hr,rfl⟩:=List.mem_map.mp hy;obtain ⟨q,a⟩:=hA r;exact ⟨[.d (zav r)],[.d (zav r)],true,rfl,rfl,fun _=>⟨_,_,q,_,a,rfl,hb⟩,fun h=>by cases h⟩)
 have em:((ys.map zav).map O.d).map (fun o=>match o with | .d (.tuple [.int a,.int b,.int l])=>.d (.int (c (a,b,l))) | _=>.z)=(ys.map c).map fun h=>O.d (.int h):=by
  rw[List.map_map,List.map_map,List.map_map];rfl
 rw[F29.zdv,List.nil_append,em] at e;have sl:∀ra:Rv,(eIx (zab 3) (eC (.int 1))) ρ=.ok ra ρ true->vn ρ ra=some (.l ((rs.map zav).map O.d))\/vn ρ ra=some (.d (.list (rs.map zav)))->pok ρ (true&&(true&&true)) ra=true->eSl (eIx (zab 3) (eC (.int 1))) oNo (zeW (eC (.int 2))) ρ=.ok (.own (.l ((ys.map zav).map O.d))) ρ (true&&(true&&(true&&true))):=fun ra h v p=>by
  have f1:fSl (.l ((rs.map zav).map O.d)) none (some 2)=some (.l ((ys.map zav).map O.d)):=by
   simp only[fSl,els,zfJ,cut]
  have f2:fSl (.d (.list (rs.map zav))) none (some 2)=some (.l ((ys.map zav).map O.d)):=by
   simp only[fSl,els,zfJ,cut]
  rcases v with v | v
  .exact zhS (q1:=true) (q2:=true) (q3:=true) h rfl (zky (q:=true) (za1 rfl rfl rfl)) p v f1
  .exact zhS (q1:=true) (q2:=true) (q3:=true) h rfl (zky (q:=true) (za1 rfl rfl rfl)) p v f2
 have main:eSl (eIx (zab 3) (eC (.int 1))) oNo (zeW (eC (.int 2))) ρ=.ok (.own (.l ((ys.map zav).map O.d))) ρ true:=by
  rcases hw with rfl | rfl
  .have nm:zab 3 ρ=.ok (.at 3 []) ρ true:=by unfold zab;rw[h3];rfl
   have g:gIx ρ (.at 3 []) 1=some (.at 3 [1]):=by
    rw[zfb,h3];rfl
   have ix:(eIx (zab 3) (eC (.int 1))) ρ=.ok (.at 3 [1]) ρ true:=zck (q1:=true) (q2:=true) nm (za1 rfl rfl rfl) (by simp[pok]) g;have ro:zaJ rs=.l ((rs.map zav).map O.d):=zjX rs;unfold netO at h3;rw[ro] at h3;exact sl _ ix (.inl (by simp[vn,vw,h3,sub])) (by simp[pok,vw,h3,sub])
  .have gn:=zho (n:=n) (rs:=rs) (ρ:=ρ) (j:=3) h3;have ix:(eIx (zab 3) (eC (.int 1))) ρ=.ok (.own (.d (.list (rs.map zav)))) ρ true:=zck (q1:=true) (q2:=true) (F24.zdP h3) (za1 rfl rfl rfl) (by simp[pok]) gn;exact sl _ ix (.inr rfl) (by simp[pok])
 have es:srcM true (fun ds=>ds.map O.d) (eSl (eIx (zab 3) (eC (.int 1))) oNo (zeW (eC (.int 2)))) ρ=.ok (((ys.map zav).map O.d,none),true) ρ true:=by
  unfold srcM;rw[main];simp[zej,cov,coe,-List.map_map]
 have fin:=F24.zkI es (zbx (by simp;omega)) e rfl;unfold zaA;exact ⟨ys,_,fin,hy,by omega⟩
theorem Row.fz {v:List (Option Int)} {w:O} (h:Row v w):fz w=some (rowD v):=by
 rcases h with rfl | rfl
 .exact zhu v
 .exact fz_d _
theorem zkb {v:List (Option Int)} {w w':O} (h:Row v w) (h':Row v w'):fEq true w w'=some (.d (.bool false)):=by
 have l:=zeY v;have c:(rowD v).canLay0=true:=by simp only[rowD,PyData.canLay0,l.1]
 have s:SeqAt.shaped (rowD v)=true:=by
  simp only[SeqAt.shaped,c,Bool.true_and,decide_eq_true_eq];simp only[rowD,PyData.depth]
  have:=l.2
  omega
 exact zfQ h.fz h'.fz s (zeL _ c) true
theorem others {n one k:Int} {rs:List Road} {w0 w1 w2 w4 w6 w8:O} (ok:zbM n rs) (T:Taut rs) (h1:0<=one/\one < n) (k0:0<=k) (k1:k<=60) (h8:Row (gone n.toNat rs one k.toNat) w8):∀(gs:List Int) (z9:O),(∀g∈gs,0<=g/\g < n)->
  ∃u9,forF (gtN 9) zdu ((gs.map PyData.int).map O.d) [w0,w1,w2,.d (netD n rs),w4,.d (.int one),w6,.d (.int k),w8,z9]=.nx [w0,w1,w2,.d (netD n rs),w4,.d (.int one),w6,.d (.int k),w8,u9]
 | [],z9,_=>⟨z9,rfl⟩
 | g::gs,z9,hg=>by
  have h2:=hg g List.mem_cons_self;have n1:=ok.n1;have rr:=zjW ok T h1 h2 k0 k1;have rd:=h8.rd (ρ:=[w0,w1,w2,.d (netD n rs),w4,.d (.int one),w6,.d (.int k),w8,.d (.int g)]) (k:=8) (b:=9) rfl rfl (by rw[zdK];omega);obtain ⟨u9,lo⟩:=others (w0:=w0) (w1:=w1) (w2:=w2) (w4:=w4) (w6:=w6) ok T h1 k0 k1 h8 gs (.d (.int g)) (fun x hx=>hg x (List.mem_cons_of_mem _ hx));have st:zdu [w0,w1,w2,.d (netD n rs),w4,.d (.int one),w6,.d (.int k),w8,.d (.int g)]=.nx [w0,w1,w2,.d (netD n rs),w4,.d (.int one),w6,.d (.int k),w8,.d (.int g)]:=by
   generalize netD n rs=N at *;generalize oD (get (gone n.toNat rs one k.toNat) g)=D at *;exact if_f (zic (za1 (zc9 (zad rfl (zad rfl (zad rfl (zad rfl (zad rd rfl rfl) rfl) rfl) rfl) rfl) rfl rr rfl) rfl rfl)) rfl
  refine ⟨u9, ?_⟩;rw[List.map_cons,List.map_cons,forF];have gg:(gtN 9) (.d (.int g)) [w0,w1,w2,.d (netD n rs),w4,.d (.int one),w6,.d (.int k),w8,z9]=some [w0,w1,w2,.d (netD n rs),w4,.d (.int one),w6,.d (.int k),w8,.d (.int g)]:=rfl;rw[gg];dsimp only;rw[st];exact lo
theorem zmB {n one k:Int} {rs:List Road} {gs:List Int} {w0 w1 w2 w3 w4 w6 z8 z9:O} (ok:zbM n rs) (T:Taut rs) (h1:0<=one/\one < n) (k0:0<=k) (k1:k<=60) (h3:zgl n rs w3) (h6:Lst (gs.map PyData.int) w6) (hg:∀g∈gs,0<=g/\g < n) :
  ∃u8 u9,zdt [w0,w1,w2,w3,w4,.d (.int one),w6,.d (.int k),z8,z9]=.nx [w0,w1,w2,.d (netD n rs),w4,.d (.int one),.d (.list (gs.map PyData.int)),.d (.int k),u8,u9]:=by
 obtain ⟨w8,eg,h8⟩:=zhh ok h1 k0 k1;have aw:=fun hk=>zgS (k:=k) ok h1 k0 hk
 have s1:(sAsg coe (zaq [false,false,false] zb2 (zae (zab 3) (zae (zab 5) (zae (zab 7) aNil)))) (gtN 8)) [w0,w1,w2,w3,w4,.d (.int one),w6,.d (.int k),z8,z9]=.nx [w0,w1,w2,.d (netD n rs),w4,.d (.int one),w6,.d (.int k),w8,z9]:=by
  have sc:scl w8=false:=by
   rcases h8 with rfl | rfl<;>rfl
  have as:∀ρ,coe ρ (.own w8)=some (w8,ρ):=fun _=>rfl
  rcases h3 with rfl | rfl
  .have fn:=zkT n rs;unfold netO zaJ at *;generalize netD n rs=N at *;exact zaC (zaO (zad rfl (zad rfl (zad rfl rfl rfl) rfl) rfl) (zcE (zoV rfl fn) (zcE rfl (zcE rfl rfl))) eg (by simp[sc]) rfl) rfl rfl
  .generalize netD n rs=N at *;exact zaC (zaO (zad rfl (zad rfl (zad rfl rfl rfl) rfl) rfl) rfl eg (by simp[sc]) rfl) rfl rfl
 have t3:(tst (e2 (zab 7) (eC (.int 3)) fLt)) [w0,w1,w2,.d (netD n rs),w4,.d (.int one),w6,.d (.int k),w8,z9]=.ok (decide (k < 3)) [w0,w1,w2,.d (netD n rs),w4,.d (.int one),w6,.d (.int k),w8,z9] true:=rfl;have s2:(sIf (gAnd (tst (e2 (zab 7) (eC (.int 3)) fLt)) (tst (e2 (zab 8) (zaq [false,false,false] zaZ (zae (zab 3) (zae (zab 5) (zae (zab 7) aNil)))) (fEq true)))) (sRet mov (eC (.bool false))) sNil) [w0,w1,w2,.d (netD n rs),w4,.d (.int one),w6,.d (.int k),w8,z9]=.nx [w0,w1,w2,.d (netD n rs),w4,.d (.int one),w6,.d (.int k),w8,z9]:=by
  by_cases c:k < 3
  .rw[decide_eq_true c] at t3;have a:=aw c;have fe:=zkb h8 (.inl rfl:Row (gone n.toNat rs one k.toNat) (rowO (gone n.toNat rs one k.toNat)));have cl:zaq [false,false,false] zaZ (zae (zab 3) (zae (zab 5) (zae (zab 7) aNil))) [w0,w1,w2,.d (netD n rs),w4,.d (.int one),w6,.d (.int k),w8,z9]=.ok (.own (rowO (gone n.toNat rs one k.toNat))) [w0,w1,w2,.d (netD n rs),w4,.d (.int one),w6,.d (.int k),w8,z9] false:=by
    generalize netD n rs=N at *;exact zaO (zad rfl (zad rfl (zad rfl rfl rfl) rfl) rfl) rfl a rfl rfl
   rcases h8 with rfl | rfl
   .unfold rowO at *;exact if_f (zg5 t3 (za0 (q:=false) (zaD (q1:=true) (q2:=false) rfl cl rfl rfl rfl fe) rfl)) rfl
   .exact if_f (zg5 t3 (za0 (q:=false) (zaD (q1:=true) (q2:=false) rfl cl rfl rfl rfl fe) rfl)) rfl
  .rw[decide_eq_false c] at t3;exact if_f (zmQ t3) rfl
 have sr:=h6.src (ρ:=[w0,w1,w2,.d (netD n rs),w4,.d (.int one),w6,.d (.int k),w8,z9]) (k:=6) rfl (Nat.lt_of_sub_eq_succ rfl);obtain ⟨u9,lo⟩:=others (w0:=w0) (w1:=w1) (w2:=w2) (w4:=w4) (w6:=.d (.list (gs.map PyData.int))) ok T h1 k0 k1 h8 gs z9 hg;exact ⟨w8,u9,L2.zas s1 (L2.zas s2 (F30.zdM sr lo))⟩
theorem zjo {n one:Int} {rs:List Road} {gs:List Int} {w0 w1 w2 w4:O} (ok:zbM n rs) (T:Taut rs) (h1:0<=one/\one < n) (hg:∀g∈gs,0<=g/\g < n):∀(ks:List Int) (w3 w6 z7 z8 z9:O),zgl n rs w3->Lst (gs.map PyData.int) w6->(∀k∈ks,0<=k/\k<=60)->
  ∃u3 u6 u7 u8 u9,forF (gtN 7) zdt ((ks.map PyData.int).map O.d) [w0,w1,w2,w3,w4,.d (.int one),w6,z7,z8,z9]=.nx [w0,w1,w2,u3,w4,.d (.int one),u6,u7,u8,u9]/\zgl n rs u3
 | [],w3,w6,z7,z8,z9,h3,_,_=>⟨w3,w6,z7,z8,z9,rfl,h3⟩
 | k::ks,w3,w6,z7,z8,z9,h3,h6,hk=>by
  obtain ⟨k0,k1⟩:=hk k List.mem_cons_self;obtain ⟨u8,u9,st⟩:=zmB (w0:=w0) (w1:=w1) (w2:=w2) (w4:=w4) (z8:=z8) (z9:=z9) ok T h1 k0 k1 h3 h6 hg;obtain ⟨v3,v6,v7,v8,v9,lo,hv⟩:=zjo (w0:=w0) (w1:=w1) (w2:=w2) (w4:=w4) ok T h1 hg ks (.d (netD n rs)) (.d (.list (gs.map PyData.int))) (.d (.int k)) u8 u9 (.inr rfl) (.inr rfl) (fun x hx=>hk x (List.mem_cons_of_mem _ hx));refine ⟨v3,v6,v7,v8,v9, ?_,hv⟩;rw[List.map_cons,List.map_cons,forF];have gg:(gtN 7) (.d (.int k)) [w0,w1,w2,w3,w4,.d (.int one),w6,z7,z8,z9]=some [w0,w1,w2,w3,w4,.d (.int one),w6,.d (.int k),z8,z9]:=rfl;rw[gg];dsimp only;rw[st];exact lo
theorem cnt {n:Int} {rs:List Road} {ρ:Rho} {w:O} (h:zgl n rs w) (h3:ρ[3]? = some w):eIx (zab 3) (eC (.int 0)) ρ=.ok (.own (.d (.int n))) ρ true:=by
 rcases h with rfl | rfl
 .have nm:zab 3 ρ=.ok (.at 3 []) ρ true:=by unfold zab;rw[h3];rfl
  have g:gIx ρ (.at 3 []) 0=some (.own (.d (.int n))):=by
   rw[zfb,h3];rfl
  exact zck (q1:=true) (q2:=true) nm (za1 rfl rfl rfl) (by simp[pok]) g
 .exact zck (q1:=true) (q2:=true) (F24.zdP h3) (za1 rfl rfl rfl) (by simp[pok]) (F43.zmL h3)
theorem zpe (r:Road):∃q,zcl [.d (zav r)]=.ok (.own (.d (.int r.1))) [.d (zav r)] q:=⟨_,zck rfl (za1 rfl rfl rfl) rfl (show gIx [.d (zav r)] (.at 0 []) 0=some (.own (.d (.int r.1))) from rfl)⟩
theorem zo3 (r:Road):∃q,zcU [.d (zav r)]=.ok (.own (.d (.int r.2.1))) [.d (zav r)] q:=⟨_,zck rfl (za1 rfl rfl rfl) rfl (show gIx [.d (zav r)] (.at 0 []) 1=some (.own (.d (.int r.2.1))) from rfl)⟩
theorem zhn (gs:List Int):zaA gs=.l ((gs.map PyData.int).map O.d):=by
 unfold zaA;rw[List.map_map];rfl
theorem zik {n one m:Int} {rs:List Road} {w0 w1 p w3 w4 z6 z7 z8 z9:O} (ok:zbM n rs) (T:Taut rs) (h1:0<=one/\one < n) (h3:zgl n rs w3) (hp:PuOk p m) (hm:m<=1125899906840000) :
  ∃p' u3 u6 u7 u8 u9,zcS [w0,w1,p,w3,w4,.d (.int one),z6,z7,z8,z9]=.nx [w0,w1,p',u3,w4,.d (.int one),u6,u7,u8,u9]/\zgl n rs u3/\PuOk p' (m+16):=by
 have n1:=ok.n1;obtain ⟨a,p1,dr1,a0,a1,hp1⟩:=zbb hp (by omega) (n:=n) (by omega) (by omega);obtain ⟨b,p2,dr2,b0,b1,hp2⟩:=zbb hp1 (by omega) (n:=13) (by decide) (by decide);obtain ⟨c,p3,dr3,c0,c1,hp3⟩:=zbb hp2 (by omega) (n:=47) (by decide) (by decide);obtain ⟨d,p4,dr4,d0,d1,hp4⟩:=zbb hp3 (by omega) (n:=2) (by decide) (by decide);obtain ⟨x0,y0,v0,rfl⟩:=hp.sh;obtain ⟨x1,y1,v1,rfl⟩:=hp1.sh;obtain ⟨_,_,_,rfl⟩:=hp2.sh;obtain ⟨_,_,_,rfl⟩:=hp3.sh;obtain ⟨x4,y4,v4,rfl⟩:=hp4.sh;obtain ⟨ys,q,el,hy,ly⟩:=zf3 (A:=zcU) (c:=fun r=>r.2.1) (ρ:=[w0,w1,.l [.d (.int x1),.d (.int y1),.d (.int v1)],w3,w4,.d (.int one),z6,z7,z8,z9]) h3 rfl ok.len rfl zo3;have fa:=zgo (a:=[a,one]) (b:=ys.map fun r=>r.2.1) (by simp;omega);have hg:∀g∈[a,one]++ys.map (fun r=>r.2.1),0<=g/\g < n:=fun g h=>by
  rcases List.mem_append.mp h with h | h
  .simp only[List.mem_cons,List.mem_nil_iff,or_false] at h;rcases h with rfl | rfl
   .exact ⟨a0,a1⟩
   .exact h1
  .obtain ⟨r,hr,rfl⟩:=List.mem_map.mp h;exact (ok.rd r (hy r hr)).2.1
 have cn:=fun p'=>cnt (ρ:=[w0,w1,p',w3,w4,.d (.int one),z6,z7,z8,z9]) h3 rfl
 have s1:(sAsg coe (e2 (zaL coes .l (zae (eFz (zaq [true,false] zag (zae (zab 2) (zae (eIx (zab 3) (eC (.int 0))) aNil)))) (zae (zab 5) aNil))) (eLS (srcM true (fun ds=>ds.map O.d) (eSl (eIx (zab 3) (eC (.int 1))) oNo (zeW (eC (.int 2))))) [none] (gtN 0) (gRet true) zcU) fAdd) (gtN 6)) [w0,w1,.l [.d (.int x0),.d (.int y0),.d (.int v0)],w3,w4,.d (.int one),z6,z7,z8,z9]=.nx [w0,w1,.l [.d (.int x1),.d (.int y1),.d (.int v1)],w3,w4,.d (.int one),zaA ([a,one]++ys.map fun r=>r.2.1),z7,z8,z9]:=by
  have i2:zaA [a,one]=.l [.d (.int a),.d (.int one)]:=rfl;rw[i2] at fa;unfold zaA at *;generalize (([a,one]++ys.map fun r=>r.2.1).map fun h=>O.d (PyData.int h))=G at *;generalize ((ys.map fun r=>r.2.1).map fun h=>O.d (PyData.int h))=Y at *;exact zaC (zaD (zaP (zad (F29.zlq (zaO (zad rfl (zad (cn _) rfl rfl) rfl) rfl dr1 rfl rfl) rfl) (zad rfl rfl rfl) rfl) rfl (Nat.le_of_ble_eq_true rfl) rfl) el rfl rfl rfl fa) rfl rfl
 obtain ⟨e,he,e0,e60⟩:∃e:Int,(∀ρ:Rho,gIx ρ (.own (.l [.d (.int b),.d (.int (13+c))])) d=some (.own (.d (.int e))))/\0<=e/\e<=60:=by
  have hd:d=0\/d=1:=by omega
  rcases hd with rfl | rfl
  .exact ⟨b,fun _=>rfl,by omega,by omega⟩
  .exact ⟨13+c,fun _=>rfl,by omega,by omega⟩
 rw[zhn] at s1;obtain ⟨u3,u6,u7,u8,u9,lo,hu⟩:=zjo (w0:=w0) (w1:=w1) (w2:=.l [.d (.int x4),.d (.int y4),.d (.int v4)]) (w4:=w4) ok T h1 hg [0,1,2,3,4,e,60] w3 (.l ((([a,one]++ys.map fun r=>r.2.1).map PyData.int).map O.d)) z7 z8 z9 h3 (.inl rfl) (fun k hk=>by
  simp only[List.mem_cons,List.mem_nil_iff,or_false] at hk;rcases hk with rfl | rfl | rfl | rfl | rfl | rfl | rfl<;>omega)
 generalize ((([a,one]++ys.map fun r=>r.2.1).map PyData.int).map O.d)=G at *;have sd:∃q,zaL coes .l (zae (eC (.int 0)) (zae (eC (.int 1)) (zae (eC (.int 2)) (zae (eC (.int 3)) (zae (eC (.int 4)) (zae (eIx (zaL coes .l (zae (zaq [true,false] zag (zae (zab 2) (zae (eC (.int 13)) aNil))) (zae (e2 (eC (.int 13)) (zaq [true,false] zag (zae (zab 2) (zae (eC (.int 47)) aNil))) fAdd) aNil))) (zaq [true,false] zag (zae (zab 2) (zae (eC (.int 2)) aNil)))) (zae (eC (.int 60)) aNil))))))) [w0,w1,.l [.d (.int x1),.d (.int y1),.d (.int v1)],w3,w4,.d (.int one),.l G,z7,z8,z9]=.ok (.own (.l [.d (.int 0),.d (.int 1),.d (.int 2),.d (.int 3),.d (.int 4),.d (.int e),.d (.int 60)])) [w0,w1,.l [.d (.int x4),.d (.int y4),.d (.int v4)],w3,w4,.d (.int one),.l G,z7,z8,z9] q:=
  ⟨_,zaP (zad rfl (zad rfl (zad rfl (zad rfl (zad rfl (zad (zck (zaP (zad (zaO (zad rfl (zad rfl rfl rfl) rfl) rfl dr2 rfl rfl) (zad (zaD rfl (zaO (zad rfl (zad rfl rfl rfl) rfl) rfl dr3 rfl rfl) rfl rfl rfl rfl) rfl rfl) rfl) rfl (Nat.le_of_ble_eq_true rfl) rfl) (za1 (zaO (zad rfl (zad rfl rfl rfl) rfl) rfl dr4 rfl rfl) rfl rfl) rfl (he _)) (zad rfl rfl rfl) rfl) rfl) rfl) rfl) rfl) rfl) rfl (Nat.le_of_ble_eq_true rfl) rfl⟩
 obtain ⟨q',sd⟩:=sd;exact ⟨_,u3,u6,u7,u8,u9,L2.zas s1 (F30.zdM (F32.zjY (ds:=[.int 0,.int 1,.int 2,.int 3,.int 4,.int e,.int 60]) sd rfl) lo),hu,hp4.mono (by omega)⟩
end F34
namespace F34
theorem ze7 {n:Int} {rs:List Road} {w0 w1 w4:O} (ok:zbM n rs) (T:Taut rs):∀(ss:List Int) (p w3 z5 z6 z7 z8 z9:O) (m:Int),zgl n rs w3->PuOk p m->m+16 * ss.length<=1125899906840000->(∀s∈ss,0<=s/\s < n)->
  ∃u2 u3 u5 u6 u7 u8 u9,forF (gtN 5) zcS ((ss.map PyData.int).map O.d) [w0,w1,p,w3,w4,z5,z6,z7,z8,z9]=.nx [w0,w1,u2,u3,w4,u5,u6,u7,u8,u9]
 | [],p,w3,z5,z6,z7,z8,z9,m,_,_,_,_=>⟨p,w3,z5,z6,z7,z8,z9,rfl⟩
 | s::ss,p,w3,z5,z6,z7,z8,z9,m,h3,hp,hm,hs=>by
  rw[List.length_cons] at hm;obtain ⟨p',v3,v6,v7,v8,v9,st,hv,hp'⟩:=zik (w0:=w0) (w1:=w1) (w4:=w4) (z6:=z6) (z7:=z7) (z8:=z8) (z9:=z9) ok T (hs s List.mem_cons_self) h3 hp (by omega);obtain ⟨u2,u3,u5,u6,u7,u8,u9,lo⟩:=ze7 (w0:=w0) (w1:=w1) (w4:=w4) ok T ss p' v3 (.d (.int s)) v6 v7 v8 v9 (m+16) hv hp' (by omega) (fun x hx=>hs x (List.mem_cons_of_mem _ hx));refine ⟨u2,u3,u5,u6,u7,u8,u9, ?_⟩;rw[List.map_cons,List.map_cons,forF];have gg:(gtN 5) (.d (.int s)) [w0,w1,p,w3,w4,z5,z6,z7,z8,z9]=some [w0,w1,p,w3,w4,.d (.int s),z6,z7,z8,z9]:=rfl;rw[gg];dsimp only;rw[st];exact lo
theorem ziX {n m:Int} {rs:List Road} {w0 w1 p z4 z5 z6 z7 z8 z9:O} (ok:zbM n rs) (n0:0 < n) (T:Taut rs) (hp:PuOk p m) (hm:m<=1125899906830000) :
  ∃u2 u3 u4 u5 u6 u7 u8 u9,(sSeq (sAsg coe (e2 (zaL coes .l (zae (eFz (zaq [true,false] zag (zae (zab 2) (zae (eIx (zab 3) (eC (.int 0))) aNil)))) aNil)) (eLS (srcM true (fun ds=>ds.map O.d) (eSl (eIx (zab 3) (eC (.int 1))) oNo (zeW (eC (.int 2))))) [none] (gtN 0) (gRet true) zcl) fAdd) (gtN 4))
  (zep (srcM false (fun ds=>ds.map O.d) (zab 4)) (gtN 5) zcS)) [w0,w1,p,netO n rs,z4,z5,z6,z7,z8,z9]=.nx [w0,w1,u2,u3,u4,u5,u6,u7,u8,u9]:=by
 have n1:=ok.n1;obtain ⟨a,p1,dr,a0,a1,hp1⟩:=zbb hp (by omega) (n:=n) (by omega) (by omega);obtain ⟨x0,y0,v0,rfl⟩:=hp.sh;obtain ⟨x1,y1,v1,rfl⟩:=hp1.sh;obtain ⟨ys,q,el,hy,ly⟩:=zf3 (A:=zcl) (c:=fun r=>r.1) (ρ:=[w0,w1,.l [.d (.int x1),.d (.int y1),.d (.int v1)],netO n rs,z4,z5,z6,z7,z8,z9]) (.inl rfl) rfl ok.len rfl zpe;have fa:=zgo (a:=[a]) (b:=ys.map fun r=>r.1) (by simp;omega);have hg:∀g∈[a]++ys.map (fun r=>r.1),0<=g/\g < n:=fun g h=>by
  rcases List.mem_append.mp h with h | h
  .obtain rfl:=List.mem_singleton.mp h;exact ⟨a0,a1⟩
  .obtain ⟨r,hr,rfl⟩:=List.mem_map.mp h;exact (ok.rd r (hy r hr)).1
 have cn:=fun p'=>cnt (n:=n) (rs:=rs) (ρ:=[w0,w1,p',netO n rs,z4,z5,z6,z7,z8,z9]) (.inl rfl) rfl
 have s1:(sAsg coe (e2 (zaL coes .l (zae (eFz (zaq [true,false] zag (zae (zab 2) (zae (eIx (zab 3) (eC (.int 0))) aNil)))) aNil)) (eLS (srcM true (fun ds=>ds.map O.d) (eSl (eIx (zab 3) (eC (.int 1))) oNo (zeW (eC (.int 2))))) [none] (gtN 0) (gRet true) zcl) fAdd) (gtN 4)) [w0,w1,.l [.d (.int x0),.d (.int y0),.d (.int v0)],netO n rs,z4,z5,z6,z7,z8,z9]=.nx [w0,w1,.l [.d (.int x1),.d (.int y1),.d (.int v1)],netO n rs,zaA ([a]++ys.map fun r=>r.1),z5,z6,z7,z8,z9]:=by
  have i2:zaA [a]=.l [.d (.int a)]:=rfl;rw[i2] at fa;unfold zaA at *;generalize (([a]++ys.map fun r=>r.1).map fun h=>O.d (PyData.int h))=G at *;generalize ((ys.map fun r=>r.1).map fun h=>O.d (PyData.int h))=Y at *;generalize netO n rs=Nt at *;exact zaC (zaD (zaP (zad (F29.zlq (zaO (zad rfl (zad (cn _) rfl rfl) rfl) rfl dr rfl rfl) rfl) rfl rfl) rfl (Nat.le_of_ble_eq_true rfl) rfl) el rfl rfl rfl fa) rfl rfl
 rw[zhn] at s1;have hL:Lst (([a]++ys.map fun r=>r.1).map PyData.int) (.l ((([a]++ys.map fun r=>r.1).map PyData.int).map O.d)):=.inl rfl;have sr:=hL.src (ρ:=[w0,w1,.l [.d (.int x1),.d (.int y1),.d (.int v1)],netO n rs,.l ((([a]++ys.map fun r=>r.1).map PyData.int).map O.d),z5,z6,z7,z8,z9]) (k:=4) rfl (Nat.lt_of_sub_eq_succ rfl);obtain ⟨u2,u3,u5,u6,u7,u8,u9,lo⟩:=ze7 (w0:=w0) (w1:=w1) (w4:=.d (.list (([a]++ys.map fun r=>r.1).map PyData.int))) ok T ([a]++ys.map fun r=>r.1) (.l [.d (.int x1),.d (.int y1),.d (.int v1)]) (netO n rs) z5 z6 z7 z8 z9 (m+4) (.inl rfl) hp1 (by simp;omega) hg;exact ⟨u2,u3,_,u5,u6,u7,u8,u9,L2.zas s1 (F30.zdM sr lo)⟩
theorem zlC (ns:List Int) {k:Int} (k0:0<=k) (k1:k < 3) {z2 z3 z4 z5 z6 z7 z8 z9:O} :
  ∃u2 u3 u4 u5 u6 u7 u8 u9,zcV [.q (ns.map V.int),.d (.int k),z2,z3,z4,z5,z6,z7,z8,z9]=.nx [.q (ns.map V.int),.d (.int k),u2,u3,u4,u5,u6,u7,u8,u9]:=by
 obtain ⟨p,e1,hp⟩:=zkh ns k0 (by omega);obtain ⟨n,rs,p2,eF,N,_,hp2⟩:=zl7 hp (by omega) (most:=7) (many:=10) (by decide) (by decide) (by decide) (by decide);obtain ⟨d,p3,e4,d0,d1,hp3⟩:=zbb hp2 (by omega) (n:=8) (by decide) (by decide);obtain ⟨rs',p4,e5,N',hp4⟩:=zlS hp3 (by omega);obtain ⟨x1,y1,c1,rfl⟩:=hp.sh;obtain ⟨x2,y2,c2,rfl⟩:=hp2.sh;obtain ⟨x3,y3,c3,rfl⟩:=hp3.sh;obtain ⟨x4,y4,c4,rfl⟩:=hp4.sh;have b1:(sAsg coe (zaq [false,false] zbr (zae (zab 0) (zae (zab 1) aNil))) (gtN 2)) [.q (ns.map V.int),.d (.int k),z2,z3,z4,z5,z6,z7,z8,z9]=.nx [.q (ns.map V.int),.d (.int k),.l [.d (.int x1),.d (.int y1),.d (.int c1)],z3,z4,z5,z6,z7,z8,z9]:=zaC (zaO (zad rfl (zad rfl rfl rfl) rfl) rfl e1 rfl rfl) rfl rfl;have b2:(sAsg coe (zaq [true,false,false] zbj (zae (zab 2) (zae (eC (.int 7)) (zae (eC (.int 10)) aNil)))) (gtN 3)) [.q (ns.map V.int),.d (.int k),.l [.d (.int x1),.d (.int y1),.d (.int c1)],z3,z4,z5,z6,z7,z8,z9]=.nx [.q (ns.map V.int),.d (.int k),.l [.d (.int x2),.d (.int y2),.d (.int c2)],netO n rs,z4,z5,z6,z7,z8,z9]:=by
  unfold netO at *;exact zaC (zaO (zad rfl (zad rfl (zad rfl rfl rfl) rfl) rfl) rfl eF rfl rfl) rfl rfl
 have dv:fEq false (.d (.int d)) (.d (.int 7))=some (.d (.bool (decide (d=7)))):=by simp;rfl
 have t:(tst (e2 (zaq [true,false] zag (zae (zab 2) (zae (eC (.int 8)) aNil))) (eC (.int 7)) (fEq false))) [.q (ns.map V.int),.d (.int k),.l [.d (.int x2),.d (.int y2),.d (.int c2)],netO n rs,z4,z5,z6,z7,z8,z9]=.ok (decide (d=7)) [.q (ns.map V.int),.d (.int k),.l [.d (.int x3),.d (.int y3),.d (.int c3)],netO n rs,z4,z5,z6,z7,z8,z9] (false&&true):=by
  generalize netO n rs=Nt at *;exact za0 (zaD (zaO (zad rfl (zad rfl rfl rfl) rfl) rfl e4 rfl rfl) rfl rfl rfl rfl dv) rfl
 by_cases hd:d=7
 .rw[decide_eq_true hd] at t;obtain ⟨u2,u3,u4,u5,u6,u7,u8,u9,tl⟩:=ziX (w0:=.q (ns.map V.int)) (w1:=.d (.int k)) (z4:=z4) (z5:=z5) (z6:=z6) (z7:=z7) (z8:=z8) (z9:=z9) N'.ok N'.pos N'.taut hp4 (by omega);have b3:(sAsg coe (zaq [true] zby (zae (zab 2) aNil)) (gtN 3)) [.q (ns.map V.int),.d (.int k),.l [.d (.int x3),.d (.int y3),.d (.int c3)],netO n rs,z4,z5,z6,z7,z8,z9]=.nx [.q (ns.map V.int),.d (.int k),.l [.d (.int x4),.d (.int y4),.d (.int c4)],netO 20 rs',z4,z5,z6,z7,z8,z9]:=by
   generalize netO n rs=Nt at *;unfold netO at *;exact zaC (zaO (zad rfl rfl rfl) rfl e5 rfl rfl) rfl rfl
  exact ⟨u2,u3,u4,u5,u6,u7,u8,u9,L2.zas b1 (L2.zas b2 (L2.zas (if_t t b3) tl))⟩
 .rw[decide_eq_false hd] at t;obtain ⟨u2,u3,u4,u5,u6,u7,u8,u9,tl⟩:=ziX (w0:=.q (ns.map V.int)) (w1:=.d (.int k)) (z4:=z4) (z5:=z5) (z6:=z6) (z7:=z7) (z8:=z8) (z9:=z9) N.ok N.pos N.taut hp3 (by omega);exact ⟨u2,u3,u4,u5,u6,u7,u8,u9,L2.zas b1 (L2.zas b2 (L2.zas (if_f t rfl) tl))⟩
theorem zfW (ns:List Int) (_:ns.length<=63):∃ρ',zei (.q (ns.map V.int)::List.replicate 9 .z)=.rt (.d (.bool true)) ρ':=by
 obtain ⟨ρ',e,u1,u2,u3,u4,u5,u6,u7,u8,u9,rfl⟩:=zcA (G:=gtN 1) (S:=zcV) (items:=rngO 0 3) (ρ:=[.q (ns.map V.int),.z,.z,.z,.z,.z,.z,.z,.z,.z])
  (fun i ρ=>∃u1 u2 u3 u4 u5 u6 u7 u8 u9,ρ=[.q (ns.map V.int),u1,u2,u3,u4,u5,u6,u7,u8,u9]) ⟨_,_,_,_,_,_,_,_,_,rfl⟩
  (fun i x ρ hx hx__=>by
   obtain ⟨u1,u2,u3,u4,u5,u6,u7,u8,u9,e⟩:=hx__;obtain ⟨hi,rfl⟩:=zcy hx;subst e;obtain ⟨v2,v3,v4,v5,v6,v7,v8,v9,st⟩:=zlC ns (k:=0+i) (by omega) (by omega) (z2:=u2) (z3:=u3) (z4:=u4) (z5:=u5) (z6:=u6) (z7:=u7) (z8:=u8) (z9:=u9);exact ⟨_,_,rfl,st,_,_,_,_,_,_,_,_,_,rfl⟩)
 have e':forF (gtN 1) zcV (rngO 0 (3:Int).toNat) [.q (ns.map V.int),.z,.z,.z,.z,.z,.z,.z,.z,.z]=_:=e;exact ⟨_,L2.zas (zfi (zfg (za1 rfl rfl rfl) rfl rfl) e') (zbX rfl rfl)⟩
end F34
theorem zfW (ns:List Int) (h:ns.length<=63):∃ρ',zei (.q (ns.map V.int)::List.replicate 9 .z)=.rt (.d (.bool true)) ρ':=F34.zfW ns h
theorem vri {X:Cx} {E:XK} {i:Int} {j pos}:VR X E (.Constant (.int i) j pos) (eC (.int i)):=zay zkV fun _ _=>.int _
theorem vrb {X:Cx} {E:XK} {i:Bool} {j pos}:VR X E (.Constant (.bool i) j pos) (eC (.bool i)):=zay zoT fun _ _=>.bl _
theorem ln1 {A:Type}:∀{us:List A},us.length=1->∃a0,us=[a0]
 | [a0],_=>⟨a0,rfl⟩
theorem ln2 {A:Type}:∀{us:List A},us.length=2->∃a0 a1,us=[a0,a1]
 | [a0,a1],_=>⟨a0,a1,rfl⟩
theorem ln3 {A:Type}:∀{us:List A},us.length=3->∃a0 a1 a2,us=[a0,a1,a2]
 | [a0,a1,a2],_=>⟨a0,a1,a2,rfl⟩
theorem ln4 {A:Type}:∀{us:List A},us.length=4->∃a0 a1 a2 a3,us=[a0,a1,a2,a3]
 | [a0,a1,a2,a3],_=>⟨a0,a1,a2,a3,rfl⟩
theorem ln5 {A:Type}:∀{us:List A},us.length=5->∃a0 a1 a2 a3 a4,us=[a0,a1,a2,a3,a4]
 | [a0,a1,a2,a3,a4],_=>⟨a0,a1,a2,a3,a4,rfl⟩
def top (i:Nat):Stmt:=PySem.Challenge.pw_tautroads_k34_so_many_roads.main.body.getD i (.Pass ⟨0,0,0,0⟩)
abbrev zeX:Stmt:=top 27
theorem zh3:zaw ["_law_script","_law_k"] ["_law_script","_law_k"] (zak zeX):=⟨rfl,rfl,rfl,by decide +kernel,rfl,by decide +kernel,by decide +kernel⟩
abbrev zdB:Stmt:=top 29
theorem sc__law_purse:zaw ["_law_script","_law_at_here","_law_cell"] ["_law_script","_law_at_here"] (zak zdB):=⟨rfl,rfl,rfl,by decide +kernel,rfl,by decide +kernel,by decide +kernel⟩
abbrev zdw:Stmt:=top 28
theorem sc__law_mixed:zaw ["_law_cell","_law_k","_law_number_here"] ["_law_cell","_law_k"] (zak zdw):=⟨rfl,rfl,rfl,by decide +kernel,rfl,by decide +kernel,by decide +kernel⟩
abbrev zdV:Stmt:=top 30
theorem sc__law_draw:zaw ["_law_purse_here","_law_out_of","_law_drawn","_law_number_here","_law_k"] ["_law_purse_here","_law_out_of"] (zak zdV):=⟨rfl,rfl,rfl,by decide +kernel,rfl,by decide +kernel,by decide +kernel⟩
abbrev zdi:Stmt:=top 31
theorem sc__law_number:zaw ["_law_purse_here","_law_most","_law_far"] ["_law_purse_here","_law_most"] (zak zdi):=⟨rfl,rfl,rfl,by decide +kernel,rfl,by decide +kernel,by decide +kernel⟩
abbrev zeu:Stmt:=top 34
theorem sc__law_net:zaw ["_law_purse_here","_law_most","_law_many","_law_count","_law_high","_law_roads","_law_k","_law_one","_law_other","_law_slack"] ["_law_purse_here","_law_most","_law_many"] (zak zeu):=⟨rfl,rfl,rfl,by decide +kernel,rfl,by decide +kernel,by decide +kernel⟩
abbrev zd3:Stmt:=top 37
theorem sc__law_full:zaw ["_law_purse_here","_law_most","_law_many","_law_net_here"] ["_law_purse_here","_law_most","_law_many"] (zak zd3):=⟨rfl,rfl,rfl,by decide +kernel,rfl,by decide +kernel,by decide +kernel⟩
abbrev zdR:Stmt:=top 41
theorem sc__law_calm:zaw ["_law_purse_here","_law_high","_law_roads","_law_k","_law_one","_law_other"] ["_law_purse_here"] (zak zdR):=⟨rfl,rfl,rfl,by decide +kernel,rfl,by decide +kernel,by decide +kernel⟩
abbrev zdF:Stmt:=top 39
theorem zfF:zaw ["_law_one","_law_other"] ["_law_one","_law_other"] (zak zdF):=⟨rfl,rfl,rfl,by decide +kernel,rfl,by decide +kernel,by decide +kernel⟩
abbrev zet:Stmt:=top 40
theorem zgO:zaw ["_law_some"] ["_law_some"] (zak zet):=⟨rfl,rfl,rfl,by decide +kernel,rfl,by decide +kernel,by decide +kernel⟩
abbrev zdW:Stmt:=top 42
theorem sc__law_gone:zaw ["_law_net_here","_law_one","_law_many","_law_far","_law_turn","_law_more","_law_start","_law_goal","_law_length"] ["_law_net_here","_law_one","_law_many"] (zak zdW):=⟨rfl,rfl,rfl,by decide +kernel,rfl,by decide +kernel,by decide +kernel⟩
abbrev zcP:Stmt:=top 43
theorem sc__law_all_ways:zaw ["_law_net_here","_law_one","_law_many","_law_found","_law_ways","_law_turn","_law_longer","_law_place","_law_length"] ["_law_net_here","_law_one","_law_many"] (zak zcP):=⟨rfl,rfl,rfl,by decide +kernel,rfl,by decide +kernel,by decide +kernel⟩
abbrev zdZ:Stmt:=top 38
theorem zgu:zaw ["_law_net_here"] ["_law_net_here"] (zak zdZ):=⟨rfl,rfl,rfl,by decide +kernel,rfl,by decide +kernel,by decide +kernel⟩
abbrev zek:Stmt:=top 10
theorem zhd:zaw ["count","number"] ["count","number"] (zak zek):=⟨rfl,rfl,rfl,by decide +kernel,rfl,by decide +kernel,by decide +kernel⟩
abbrev zeN:Stmt:=top 11
theorem sc_is_road:zaw ["count","road","start","end","length"] ["count","road"] (zak zeN):=⟨rfl,rfl,rfl,by decide +kernel,rfl,by decide +kernel,by decide +kernel⟩
abbrev zdX:Stmt:=top 12
theorem sc_check_net:zaw ["net","count","roads","number","road"] ["net"] (zak zdX):=⟨rfl,rfl,rfl,by decide +kernel,rfl,by decide +kernel,by decide +kernel⟩
abbrev zde:Stmt:=top 13
theorem zfa:zaw ["net","number"] ["net","number"] (zak zde):=⟨rfl,rfl,rfl,by decide +kernel,rfl,by decide +kernel,by decide +kernel⟩
abbrev zcr:Stmt:=top 14
theorem zem:zaw ["net","one","other"] ["net","one","other"] (zak zcr):=⟨rfl,rfl,rfl,by decide +kernel,rfl,by decide +kernel,by decide +kernel⟩
abbrev zdD:Stmt:=top 16
theorem sc_lower_once:zaw ["roads","values","entries","last","number","start","end","length"] ["roads","values","entries"] (zak zdD):=⟨rfl,rfl,rfl,by decide +kernel,rfl,by decide +kernel,by decide +kernel⟩
abbrev zgM:Stmt:=top 17
theorem sc_lower:zaw ["net","starts","count","roads","values","entries","last","turn"] ["net","starts"] (zak zgM):=⟨rfl,rfl,rfl,by decide +kernel,rfl,by decide +kernel,by decide +kernel⟩
abbrev zdI:Stmt:=top 18
theorem sc_check_taut:zaw ["net","values","entries","last"] ["net"] (zak zdI):=⟨rfl,rfl,rfl,by decide +kernel,rfl,by decide +kernel,by decide +kernel⟩
abbrev zer:Stmt:=top 20
theorem zg4:zaw ["lengths"] ["lengths"] (zak zer):=⟨rfl,rfl,rfl,by decide +kernel,rfl,by decide +kernel,by decide +kernel⟩
abbrev zcL:Stmt:=top 23
theorem sc_one_road_more:zaw ["roads","lengths","further","entries","number","start","end","length","reach"] ["roads","lengths"] (zak zcL):=⟨rfl,rfl,rfl,by decide +kernel,rfl,by decide +kernel,by decide +kernel⟩
abbrev zcY:Stmt:=top 24
theorem sc_way_of_steps:zaw ["roads","steps","other","way","at","entries"] ["roads","steps","other"] (zak zcY):=⟨rfl,rfl,rfl,by decide +kernel,rfl,by decide +kernel,by decide +kernel⟩
abbrev ze4:Stmt:=top 25
theorem sc_counted:zaw ["net","one","other","k","count","roads","lengths","steps","turn","entries"] ["net","one","other","k"] (zak ze4):=⟨rfl,rfl,rfl,by decide +kernel,rfl,by decide +kernel,by decide +kernel⟩
abbrev zdE:Stmt:=top 32
theorem zfz:zaw ["_law_found"] ["_law_found"] (zak zdE):=⟨rfl,rfl,rfl,by decide +kernel,rfl,by decide +kernel,by decide +kernel⟩
abbrev zdd:Stmt:=top 33
theorem zfc:zaw ["_law_some"] ["_law_some"] (zak zdd):=⟨rfl,rfl,rfl,by decide +kernel,rfl,by decide +kernel,by decide +kernel⟩
abbrev zdg:Stmt:=top 35
theorem sc__law_is_way:zaw ["_law_net_here","_law_one","_law_other","_law_way","_law_place","_law_number_here"] ["_law_net_here","_law_one","_law_other","_law_way"] (zak zdg):=⟨rfl,rfl,rfl,by decide +kernel,rfl,by decide +kernel,by decide +kernel⟩
abbrev zdU:Stmt:=top 36
theorem zgx:zaw ["_law_net_here","_law_way"] ["_law_net_here","_law_way"] (zak zdU):=⟨rfl,rfl,rfl,by decide +kernel,rfl,by decide +kernel,by decide +kernel⟩
abbrev zdG:Stmt:=top 44
theorem sc__law_right:zaw ["_law_net_here","_law_one","_law_other","_law_k","_law_due","_law_stayed","_law_found","_law_length","_law_way","_law_kept"] ["_law_net_here","_law_one","_law_other","_law_k","_law_due"] (zak zdG):=⟨rfl,rfl,rfl,by decide +kernel,rfl,by decide +kernel,by decide +kernel⟩
abbrev zgT:Stmt:=top 45
theorem sc_law:zaw ["_law_script","_law_cell","_law_purse_here","_law_net_here","_law_starts","_law_one","_law_goals","_law_k","_law_far","_law_other"] ["_law_script"] (zak zgT):=⟨rfl,rfl,rfl,by decide +kernel,rfl,by decide +kernel,by decide +kernel⟩
structure Tx (K:PySem.W.Frag) (mg:Str->Option Value):Prop where
 d__law_at:∃f fd,Fun K "_law_at" "_law_at" zeX f fd/\mg "_law_at"=some (.ref f)
 d__law_purse:∃f fd,Fun K "_law_purse" "_law_purse" zdB f fd/\mg "_law_purse"=some (.ref f)
 d__law_mixed:∃f fd,Fun K "_law_mixed" "_law_mixed" zdw f fd/\mg "_law_mixed"=some (.ref f)
 d__law_draw:∃f fd,Fun K "_law_draw" "_law_draw" zdV f fd/\mg "_law_draw"=some (.ref f)
 d__law_number:∃f fd,Fun K "_law_number" "_law_number" zdi f fd/\mg "_law_number"=some (.ref f)
 d__law_net:∃f fd,Fun K "_law_net" "_law_net" zeu f fd/\mg "_law_net"=some (.ref f)
 d__law_full:∃f fd,Fun K "_law_full" "_law_full" zd3 f fd/\mg "_law_full"=some (.ref f)
 d__law_calm:∃f fd,Fun K "_law_calm" "_law_calm" zdR f fd/\mg "_law_calm"=some (.ref f)
 d__law_least:∃f fd,Fun K "_law_least" "_law_least" zdF f fd/\mg "_law_least"=some (.ref f)
 d__law_sum:∃f fd,Fun K "_law_sum" "_law_sum" zet f fd/\mg "_law_sum"=some (.ref f)
 d__law_gone:∃f fd,Fun K "_law_gone" "_law_gone" zdW f fd/\mg "_law_gone"=some (.ref f)
 d__law_all_ways:∃f fd,Fun K "_law_all_ways" "_law_all_ways" zcP f fd/\mg "_law_all_ways"=some (.ref f)
 d__law_copy:∃f fd,Fun K "_law_copy" "_law_copy" zdZ f fd/\mg "_law_copy"=some (.ref f)
 d_is_place:∃f fd,Fun K "is_place" "is_place" zek f fd/\mg "is_place"=some (.ref f)
 d_is_road:∃f fd,Fun K "is_road" "is_road" zeN f fd/\mg "is_road"=some (.ref f)
 d_check_net:∃f fd,Fun K "check_net" "check_net" zdX f fd/\mg "check_net"=some (.ref f)
 d_check_place:∃f fd,Fun K "check_place" "check_place" zde f fd/\mg "check_place"=some (.ref f)
 d_check_question:∃f fd,Fun K "check_question" "check_question" zcr f fd/\mg "check_question"=some (.ref f)
 d_lower_once:∃f fd,Fun K "lower_once" "lower_once" zdD f fd/\mg "lower_once"=some (.ref f)
 d_lower:∃f fd,Fun K "lower" "lower" zgM f fd/\mg "lower"=some (.ref f)
 d_check_taut:∃f fd,Fun K "check_taut" "check_taut" zdI f fd/\mg "check_taut"=some (.ref f)
 d_together:∃f fd,Fun K "together" "together" zer f fd/\mg "together"=some (.ref f)
 d_one_road_more:∃f fd,Fun K "one_road_more" "one_road_more" zcL f fd/\mg "one_road_more"=some (.ref f)
 d_way_of_steps:∃f fd,Fun K "way_of_steps" "way_of_steps" zcY f fd/\mg "way_of_steps"=some (.ref f)
 d_counted:∃f fd,Fun K "counted" "counted" ze4 f fd/\mg "counted"=some (.ref f)
 d__law_whole:∃f fd,Fun K "_law_whole" "_law_whole" zdE f fd/\mg "_law_whole"=some (.ref f)
 d__law_wholes:∃f fd,Fun K "_law_wholes" "_law_wholes" zdd f fd/\mg "_law_wholes"=some (.ref f)
 d__law_is_way:∃f fd,Fun K "_law_is_way" "_law_is_way" zdg f fd/\mg "_law_is_way"=some (.ref f)
 d__law_long:∃f fd,Fun K "_law_long" "_law_long" zdU f fd/\mg "_law_long"=some (.ref f)
 d__law_right:∃f fd,Fun K "_law_right" "_law_right" zdG f fd/\mg "_law_right"=some (.ref f)
 d_law:∃f fd,Fun K "law" "law" zgT f fd/\mg "law"=some (.ref f)
 n_bool:mg "bool"=none
 n_enumerate:mg "enumerate"=none
 n_int:mg "int"=none
 n_isinstance:mg "isinstance"=none
 n_len:mg "len"=none
 n_list:mg "list"=none
 n_max:mg "max"=none
 n_range:mg "range"=none
 n_reversed:mg "reversed"=none
 n_sum:mg "sum"=none
 n_tuple:mg "tuple"=none
 g_MOST_LENGTH:∃t,mg "MOST_LENGTH"=some (.int (1000000000) t)
 g_MOST_PLACES:∃t,mg "MOST_PLACES"=some (.int (20) t)
 g_MOST_ROADS:∃t,mg "MOST_ROADS"=some (.int (60) t)
 g_MOST_STEPS:∃t,mg "MOST_STEPS"=some (.int (60) t)
variable {P:Program} {w:World} {K:PySem.W.Frag} {mg:Str->Option Value} {base:Heap}
theorem ziM (T:Tx K mg):VDef P w K mg base "_law_at" ["_law_script","_law_k"] 1 [false,false] zcz:=by
 exact za2 (S:=zdk) (n:=2) T.d__law_at (fun _ _ _ _ _ _ us hl=>by obtain ⟨_,_,rfl⟩:=ln2 hl;rfl) zh3 rfl rfl (by decide) (fun f cdv A outer s H E hr=>
   (zaf (zcx (zbc zjn (zaa (pv 1)) (zbG zeb rfl T.n_len PySem.boot_len (zac (zaa (pv 0)) zai)) (zaR _)) (zaj (zaH zar (zaF (zaa (pv 0)) (zaa (pv 1)) (fun _ _=>rfl)))) zaT)
   (zaj (zaH zar vri))))
theorem zfY (T:Tx K mg):VDef P w K mg base "_law_purse" ["_law_script","_law_at_here"] 2 [false,false] zbr:=by
 have c__law_at:=ziM (P:=P) (w:=w) (base:=base) T;exact za2 (S:=zcs) (n:=3) T.d__law_purse (fun _ _ _ _ _ _ us hl=>by obtain ⟨_,_,rfl⟩:=ln2 hl;rfl) sc__law_purse rfl rfl (by decide) (fun f cdv A outer s H E hr=>
   (zaf (zaz (i:=2) zah sc__law_purse.nd rfl (Or.inl rfl) (by decide) (zap c__law_at hr (by decide) rfl (zbd rfl rfl rfl rfl) (zac (zaa (pv 0)) (zac (zaa (pv 1)) zai))))
   (zaj (zaH zah (zbN zax (zac (zbG (zlZ rfl) rfl T.n_max PyProof.Rows.boot_max (zac (zaS zhF (zaa (pv 2)) (zaS zhR vri vri)) (zac vri zai))) (zac (zaS zeV (zaa (pv 2)) vri) (zac (zaS zc7 vri (zaa (pv 1))) zai))))))))
theorem zfZ (T:Tx K mg):VDef P w K mg base "_law_mixed" ["_law_cell","_law_k"] 1 [false,false] zbP:=by
 exact za2 (S:=zco) (n:=3) T.d__law_mixed (fun _ _ _ _ _ _ us hl=>by obtain ⟨_,_,rfl⟩:=ln2 hl;rfl) sc__law_mixed rfl rfl (by decide) (fun f cdv A outer s H E hr=>
   (zaf (zaz (i:=2) zah sc__law_mixed.nd rfl (Or.inl rfl) (by decide) (zaS zeV (zaS zbY (zaS zbY (zaS zbY (zaS zc7 (zaa (pv 0)) vri) (zaS zc7 (zaS zc7 vri (zaa (pv 1))) (zaa (pv 1)))) (zaa (pv 1))) vri) vri))
   (zaf (zaz (i:=2) zah sc__law_mixed.nd rfl (Or.inl rfl) (by decide) (zaS zeV (zaS zbY (zaS zc7 (zaa (pv 2)) (zaa (pv 2))) vri) vri))
   (zaj (zaH zar (zaS zeV (zaS zc7 (zaa (pv 2)) vri) vri))))))
theorem zdf (T:Tx K mg):VDef P w K mg base "_law_draw" ["_law_purse_here","_law_out_of"] 2 [true,false] zag:=by
 have c__law_mixed:=zfZ (P:=P) (w:=w) (base:=base) T;exact za2 (S:=zcG) (n:=5) T.d__law_draw (fun _ _ _ _ _ _ us hl=>by obtain ⟨_,_,rfl⟩:=ln2 hl;rfl) sc__law_draw rfl rfl (by decide) (fun f cdv A outer s H E hr=>
   (zaf (zcx (zbc zls (zaF (zaa (pv 0)) vri (fun _ _=>rfl)) vri (zaR _)) (zaf (zaz (i:=2) zah sc__law_draw.nd rfl (Or.inl rfl) (by decide) (zaS zeV (zaF (zaa (pv 0)) vri (fun _ _=>rfl)) (zaa (pv 1))))
   (zaf (zd7 zah (zaS zkF (zaF (zaa (pv 0)) vri (fun _ _=>rfl)) (zaa (pv 1))) (zaa (pv 0)) vri)
   (zaj (zaH zar (zaa (pv 2)))))) zaT)
   (zaf (zaz (i:=3) zah sc__law_draw.nd rfl (Or.inl rfl) (by decide) vri)
   (zaf (zcR PassesOwn.leaving rfl rfl T.n_range (zaS zbY vri (zaS zkF (znS (zaa (pv 1)) fun h=>zmr PySem.F.plainAttrs_int PySem.F.slot_int_bit_length PySem.F.type_int_bit_length zk9 h) vri)) (zan (zao (i:=4) sc__law_draw.nd rfl (Or.inl rfl)) (by decide))
   (zaf (zd7 zah (zaS zbY (zaF (zaa (pv 0)) vri (fun _ _=>rfl)) vri) (zaa (pv 0)) vri)
   (zaj (zaz (i:=3) zah sc__law_draw.nd rfl (Or.inl rfl) (by decide) (zaS zbY (zaS zc7 (zaa (pv 3)) vri) (zap c__law_mixed hr (by decide) rfl (zbd rfl rfl rfl rfl) (zac (zaF (zaa (pv 0)) vri (fun _ _=>rfl)) (zac (zaF (zaa (pv 0)) vri (fun _ _=>rfl)) zai))))))))
   (zaj (zaH zar (zaS zeV (zaa (pv 3)) (zaa (pv 1)))))))))
theorem zef (T:Tx K mg):VDef P w K mg base "_law_number" ["_law_purse_here","_law_most"] 3 [true,false] zbi:=by
 have c__law_draw:=zdf (P:=P) (w:=w) (base:=base) T;exact za2 (S:=zb5) (n:=3) T.d__law_number (fun _ _ _ _ _ _ us hl=>by obtain ⟨_,_,rfl⟩:=ln2 hl;rfl) sc__law_number rfl rfl (by decide) (fun f cdv A outer s H E hr=>
   (zaf (zaz (i:=2) zah sc__law_number.nd rfl (Or.inl rfl) (by decide) (zaF (zbN zax (zac vri (zac vri (zac vri (zac (zaa (pv 1)) zai))))) (zap c__law_draw hr (by decide) rfl (zbd rfl rfl rfl rfl) (zac (zaa (pv 0)) (zac vri zai))) (fun _ _=>rfl)))
   (zaj (zaH zah (zaS zhF (zap c__law_draw hr (by decide) rfl (zbd rfl rfl rfl rfl) (zac (zaa (pv 0)) (zac (zaS zbY (zaS zc7 vri (zaa (pv 2))) vri) zai))) (zaa (pv 2)))))))
theorem zhZ (T:Tx K mg):VDef P w K mg base "_law_net" ["_law_purse_here","_law_most","_law_many"] 4 [true,false,false] zcg:=by
 have c__law_draw:=zdf (P:=P) (w:=w) (base:=base) T;have c__law_number:=zef (P:=P) (w:=w) (base:=base) T;exact za2 (S:=zcX) (n:=10) T.d__law_net (fun _ _ _ _ _ _ us hl=>by obtain ⟨_,_,_,rfl⟩:=ln3 hl;rfl) sc__law_net rfl rfl (by decide) (fun f cdv A outer s H E hr=>
   (zaf (zaz (i:=3) zah sc__law_net.nd rfl (Or.inl rfl) (by decide) (zap c__law_draw hr (by decide) rfl (zbd rfl rfl rfl rfl) (zac (zaa (pv 0)) (zac (zaS zbY (zaa (pv 1)) vri) zai))))
   (zaf (zdL (N':=["_law_k","_law_purse_here"]) (js:=[none,some 0]) (i:=4) sc__law_net.nd rfl (Or.inl rfl) (by decide) (zaa (pv 3)) rfl T.n_range rfl (by kernel_rfl) (by kernel_rfl) rfl (by decide) (fun _ _ _=>⟨(zan (zao (i:=0) (show List.Nodup [("_law_k":Str),("_law_purse_here":Str)] by decide +kernel) rfl (Or.inl rfl)) (by decide)),zdj,(zap c__law_number hr (by decide) rfl zaK (zac (zaa (pv 1)) (zac (zaS zhR vri vri) zai)))⟩))
   (zaf (zaz (i:=5) zah sc__law_net.nd rfl (Or.inl rfl) (by decide) (zbN zax zai))
   (zaf (zcR PassesOwn.leaving rfl rfl T.n_range (zaS zc7 (zap c__law_draw hr (by decide) rfl (zbd rfl rfl rfl rfl) (zac (zaa (pv 0)) (zac (zaS zbY (zaa (pv 2)) vri) zai))) (zd8 znJ rfl T.n_int PyProof.Rows.boot_int (zac (zeS zls (zaa (pv 3)) vri (zaR _)) zai))) (zan (zao (i:=6) sc__law_net.nd rfl (Or.inl rfl)) (by decide))
   (zaf (zaz (i:=7) zah sc__law_net.nd rfl (Or.inl rfl) (by decide) (zap c__law_draw hr (by decide) rfl (zbd rfl rfl rfl rfl) (zac (zaa (pv 0)) (zac (zaa (pv 3)) zai))))
   (zaf (zaz (i:=8) zah sc__law_net.nd rfl (Or.inl rfl) (by decide) (zap c__law_draw hr (by decide) rfl (zbd rfl rfl rfl rfl) (zac (zaa (pv 0)) (zac (zaa (pv 3)) zai))))
   (zaf (zaz (i:=9) zah sc__law_net.nd rfl (Or.inl rfl) (by decide) (zaF (zbN zax (zac vri (zac vri (zac (zap c__law_draw hr (by decide) rfl (zbd rfl rfl rfl rfl) (zac (zaa (pv 0)) (zac vri zai))) (zac (zap c__law_draw hr (by decide) rfl (zbd rfl rfl rfl rfl) (zac (zaa (pv 0)) (zac (zaS zhR vri vri) zai))) zai))))) (zap c__law_draw hr (by decide) rfl (zbd rfl rfl rfl rfl) (zac (zaa (pv 0)) (zac vri zai))) (fun _ _=>rfl)))
   (zaf (zcM (zes (zaa (pv 5)) (zda zax (zac (zaa (pv 7)) (zac (zaa (pv 8)) (zac (zaS zbY (zaS zhF (zaF (zaa (pv 4)) (zaa (pv 8)) (fun _ _=>rfl)) (zaF (zaa (pv 4)) (zaa (pv 7)) (fun _ _=>rfl))) (zaa (pv 9))) zai)))) fun h h'=>zih PySem.F.plainAttrs_list PySem.F.slot_list_append PySem.F.type_list_append zc8 h (zb7 h' zdo)))
   (zaj (zcx (zbc (zfe hr.units) (zap c__law_draw hr (by decide) rfl (zbd rfl rfl rfl rfl) (zac (zaa (pv 0)) (zac vri zai))) vri (zaR _)) (zaj (zcM (zes (zaa (pv 5)) (zaF (zaa (pv 5)) (zap c__law_draw hr (by decide) rfl (zbd rfl rfl rfl rfl) (zac (zaa (pv 0)) (zac (zbG zeb rfl T.n_len PySem.boot_len (zac (zaa (pv 5)) zai)) zai))) (fun _ _=>rfl)) fun h h'=>zih PySem.F.plainAttrs_list PySem.F.slot_list_append PySem.F.type_list_append zc8 h (zb7 h' zdo)))) zaT)))))))
   (zaj (zaH zar (zda zeK (zac (zaa (pv 3)) (zac (zaa (pv 5)) zai))))))))))
theorem zgV (T:Tx K mg):VDef P w K mg base "_law_full" ["_law_purse_here","_law_most","_law_many"] 5 [true,false,false] zbj:=by
 have c__law_net:=zhZ (P:=P) (w:=w) (base:=base) T;exact za2 (S:=zcH) (n:=4) T.d__law_full (fun _ _ _ _ _ _ us hl=>by obtain ⟨_,_,_,rfl⟩:=ln3 hl;rfl) sc__law_full rfl rfl (by decide) (fun f cdv A outer s H E hr=>
   (zaf (zaz (i:=3) zah sc__law_full.nd rfl (Or.inl rfl) (by decide) (zap c__law_net hr (by decide) rfl (zbd rfl rfl rfl rfl) (zac (zaa (pv 0)) (zac (zaa (pv 1)) (zac (zaa (pv 2)) zai)))))
   (zaf (zcx (zbc (zfe hr.units) (zaF (zaa (pv 3)) vri (fun _ _=>rfl)) vri (zaR _)) (zaj (zaz (i:=3) zah sc__law_full.nd rfl (Or.inl rfl) (by decide) (zda zax (zac vri (zac (zbN zax (zac (zda zax (zac vri (zac vri (zac vri zai)))) zai)) zai))))) zaT)
   (zaj (zaH zar (zaa (pv 3)))))))
theorem zgW (T:Tx K mg):VDef P w K mg base "_law_calm" ["_law_purse_here"] 4 [true] zby:=by
 have c__law_number:=zef (P:=P) (w:=w) (base:=base) T;have c__law_draw:=zdf (P:=P) (w:=w) (base:=base) T;exact za2 (S:=zcF) (n:=6) T.d__law_calm (fun _ _ _ _ _ _ us hl=>by obtain ⟨_,rfl⟩:=ln1 hl;rfl) sc__law_calm rfl rfl (by decide) (fun f cdv A outer s H E hr=>
   (zaf (zdL (N':=["_law_k","_law_purse_here"]) (js:=[none,some 0]) (i:=1) sc__law_calm.nd rfl (Or.inl rfl) (by decide) vri rfl T.n_range rfl (by kernel_rfl) (by kernel_rfl) rfl (by decide) (fun _ _ _=>⟨(zan (zao (i:=0) (show List.Nodup [("_law_k":Str),("_law_purse_here":Str)] by decide +kernel) rfl (Or.inl rfl)) (by decide)),zdj,(zap c__law_number hr (by decide) rfl zaK (zac (zaa (pv 1)) (zac (zaS zhR vri vri) zai)))⟩))
   (zaf (zaz (i:=2) zah sc__law_calm.nd rfl (Or.inl rfl) (by decide) (zbN zax zai))
   (zaf (zcR PassesOwn.leaving rfl rfl T.n_range vri (zan (zao (i:=3) sc__law_calm.nd rfl (Or.inl rfl)) (by decide))
   (zaf (zaz (i:=4) zah sc__law_calm.nd rfl (Or.inl rfl) (by decide) (zap c__law_draw hr (by decide) rfl (zbd rfl rfl rfl rfl) (zac (zaa (pv 0)) (zac vri zai))))
   (zaf (zaz (i:=5) zah sc__law_calm.nd rfl (Or.inl rfl) (by decide) (zaF (zbN zax (zac (zaS zeV (zaS zbY (zaa (pv 4)) vri) vri) (zac (zap c__law_draw hr (by decide) rfl (zbd rfl rfl rfl rfl) (zac (zaa (pv 0)) (zac vri zai))) zai))) (zap c__law_draw hr (by decide) rfl (zbd rfl rfl rfl rfl) (zac (zaa (pv 0)) (zac vri zai))) (fun _ _=>rfl)))
   (zaj (zcM (zes (zaa (pv 2)) (zda zax (zac (zaa (pv 4)) (zac (zaa (pv 5)) (zac (zaS zbY (zaS zhF (zaF (zaa (pv 1)) (zaa (pv 5)) (fun _ _=>rfl)) (zaF (zaa (pv 1)) (zaa (pv 4)) (fun _ _=>rfl))) (zap c__law_draw hr (by decide) rfl (zbd rfl rfl rfl rfl) (zac (zaa (pv 0)) (zac vri zai)))) zai)))) fun h h'=>zih PySem.F.plainAttrs_list PySem.F.slot_list_append PySem.F.type_list_append zc8 h (zb7 h' zdo)))))))
   (zaj (zaH zar (zda zeK (zac vri (zac (zaa (pv 2)) zai)))))))))
theorem zeA (T:Tx K mg):VDef P w K mg base "_law_least" ["_law_one","_law_other"] 1 [false,false] za4:=by
 exact za2 (S:=zdp) (n:=2) T.d__law_least (fun _ _ _ _ _ _ us hl=>by obtain ⟨_,_,rfl⟩:=ln2 hl;rfl) zfF rfl rfl (by decide) (fun f cdv A outer s H E hr=>
   (zaf (zcx (vt_w (zfN (zbc zff (zaa (pv 0)) (zay zbw fun _ _=>.non) (zaR _)) (zga (vt_w (zjk (zbc zgR (zaa (pv 1)) (zay zbw fun _ _=>.non) (zaR _)) (zg2 (zbc zjn (zaa (pv 1)) (zaa (pv 0)) (zaR _)))))))) (zaj (zaH zar (zaa (pv 1)))) zaT)
   (zaj (zaH zar (zaa (pv 0))))))
theorem zh4 (T:Tx K mg):VDef P w K mg base "_law_sum" ["_law_some"] 1 [false] zaU:=by
 exact za2 (S:=zcZ) (n:=1) T.d__law_sum (fun _ _ _ _ _ _ us hl=>by obtain ⟨_,rfl⟩:=ln1 hl;rfl) zgO rfl rfl (by decide) (fun f cdv A outer s H E hr=>
   (zaf (zcx (zbc (zn4 hr.units65) (zay zbw fun _ _=>.non) (zaa (pv 0)) (by with_unfolding_all rfl)) (zaj (zaH zar (zay zbw fun _ _=>.non))) zaT)
   (zaj (zaH zar (zbG (ziu rfl) rfl T.n_sum PyProof.Rows.boot_sum (zac (zaa (pv 0)) zai))))))
theorem zg8 (T:Tx K mg):VDef P w K mg base "_law_gone" ["_law_net_here","_law_one","_law_many"] 2 [false,false,false] zb2:=by
 have c__law_least:=zeA (P:=P) (w:=w) (base:=base) T;have c__law_sum:=zh4 (P:=P) (w:=w) (base:=base) T;exact za2 (S:=zcK) (n:=9) T.d__law_gone (fun _ _ _ _ _ _ us hl=>by obtain ⟨_,_,_,rfl⟩:=ln3 hl;rfl) sc__law_gone rfl rfl (by decide) (fun f cdv A outer s H E hr=>
   (zaf (zdL (N':=["_law_place"]) (js:=[none]) (i:=3) sc__law_gone.nd rfl (Or.inl rfl) (by decide) (zaF (zaa (pv 0)) vri (fun _ _=>rfl)) rfl T.n_range rfl (by kernel_rfl) (by kernel_rfl) rfl (by decide) (fun _ _ _=>⟨(zan (zao (i:=0) (show List.Nodup [("_law_place":Str)] by decide +kernel) rfl (Or.inl rfl)) (by decide)),zdj,(zay zbw fun _ _=>.non)⟩))
   (zaf (zd7 zah vri (zaa (pv 3)) (zaa (pv 1)))
   (zaf (zcR PassesOwn.leaving rfl rfl T.n_range (zaa (pv 2)) (zan (zao (i:=4) sc__law_gone.nd rfl (Or.inl rfl)) (by decide))
   (zaf (zdL (N':=["_law_place"]) (js:=[none]) (i:=5) sc__law_gone.nd rfl (Or.inl rfl) (by decide) (zaF (zaa (pv 0)) vri (fun _ _=>rfl)) rfl T.n_range rfl (by kernel_rfl) (by kernel_rfl) rfl (by decide) (fun _ _ _=>⟨(zan (zao (i:=0) (show List.Nodup [("_law_place":Str)] by decide +kernel) rfl (Or.inl rfl)) (by decide)),zdj,(zay zbw fun _ _=>.non)⟩))
   (zaf (zd1 PassesOwn.leaving rfl (zaF (zaa (pv 0)) vri (fun _ _=>rfl)) (zcD rfl (zat (zan (zao (i:=6) sc__law_gone.nd rfl (Or.inl rfl)) (by decide)) (zat (zan (zao (i:=7) sc__law_gone.nd rfl (Or.inl rfl)) (by decide)) (zat (zan (zao (i:=8) sc__law_gone.nd rfl (Or.inl rfl)) (by decide)) zbU))) 3 (zal (zal (zal (fun _ _ _=>zaX)))))
   (zaj (zd7 zah (zap c__law_least hr (by decide) rfl (zbd rfl rfl rfl rfl) (zac (zaF (zaa (pv 5)) (zaa (pv 7)) (fun _ _=>rfl)) (zac (zlu (zap c__law_sum hr (by decide) rfl (zbd rfl rfl rfl rfl) (zac (zbN zax (zac (zaF (zaa (pv 3)) (zaa (pv 6)) (fun _ _=>rfl)) (zac (zaa (pv 8)) zai))) zai))) zai))) (zaa (pv 5)) (zaa (pv 7)))))
   (zaj (zaz (i:=3) zah sc__law_gone.nd rfl (Or.inl rfl) (by decide) (zaa (pv 5)))))))
   (zaj (zaH zar (zaa (pv 3))))))))
theorem zeT (T:Tx K mg):VDef P w K mg base "_law_all_ways" ["_law_net_here","_law_one","_law_many"] 2 [false,false,false] zaZ:=by
 have c__law_least:=zeA (P:=P) (w:=w) (base:=base) T;exact za2 (S:=zbV) (n:=9) T.d__law_all_ways (fun _ _ _ _ _ _ us hl=>by obtain ⟨_,_,_,rfl⟩:=ln3 hl;rfl) sc__law_all_ways rfl rfl (by decide) (fun f cdv A outer s H E hr=>
   (zaf (zdL (N':=["_law_place"]) (js:=[none]) (i:=3) sc__law_all_ways.nd rfl (Or.inl rfl) (by decide) (zaF (zaa (pv 0)) vri (fun _ _=>rfl)) rfl T.n_range rfl (by kernel_rfl) (by kernel_rfl) rfl (by decide) (fun _ _ _=>⟨(zan (zao (i:=0) (show List.Nodup [("_law_place":Str)] by decide +kernel) rfl (Or.inl rfl)) (by decide)),zdj,(zay zbw fun _ _=>.non)⟩))
   (zaf (zaz (i:=4) zah sc__law_all_ways.nd rfl (Or.inl rfl) (by decide) (zbN zax (zac (zda zax (zac (zaa (pv 1)) (zac vri zai))) zai)))
   (zaf (zcR PassesOwn.leaving rfl rfl T.n_range (zaa (pv 2)) (zan (zao (i:=5) sc__law_all_ways.nd rfl (Or.inl rfl)) (by decide))
   (zaf (zaz (i:=6) zah sc__law_all_ways.nd rfl (Or.inl rfl) (by decide) (zbN zax zai))
   (zaf (zd1 PassesOwn.leaving rfl (zaa (pv 4)) (zcD rfl (zat (zan (zao (i:=7) sc__law_all_ways.nd rfl (Or.inr rfl)) (by decide)) (zat (zan (zao (i:=8) sc__law_all_ways.nd rfl (Or.inr rfl)) (by decide)) zbU)) 2 (zal (zal (fun _ _ _=>zaX))))
   (zaj (zaz (i:=6) zah sc__law_all_ways.nd rfl (Or.inl rfl) (by decide) (zaS zbY (zaa (pv 6)) (zgf true (N':=["_law_road","_law_length","_law_place"]) (js:=[none,some 8,some 7]) (zaF (zaa (pv 0)) vri (fun _ _=>rfl)) rfl (by kernel_rfl) (by kernel_rfl) rfl (by decide) (fun _ _ _=>⟨(zan (zao (i:=0) (show List.Nodup [("_law_road":Str),("_law_length":Str),("_law_place":Str)] by decide +kernel) rfl (Or.inl rfl)) (by decide)),ziC (zbc (zfe hr.units) (zaF (zaa (pv 0)) vri (fun _ _=>rfl)) (zaa (pv 2)) (zaR _)),(zda zax (zac (zaF (zaa (pv 0)) vri (fun _ _=>rfl)) (zac (zaS zbY (zaa (pv 1)) (zaF (zaa (pv 0)) vri (fun _ _=>rfl))) zai)))⟩))))))
   (zaj (zaz (i:=4) zah sc__law_all_ways.nd rfl (Or.inl rfl) (by decide) (zaa (pv 6)))))))
   (zaf (zd1 PassesOwn.leaving rfl (zaa (pv 4)) (zcD rfl (zat (zan (zao (i:=7) sc__law_all_ways.nd rfl (Or.inr rfl)) (by decide)) (zat (zan (zao (i:=8) sc__law_all_ways.nd rfl (Or.inr rfl)) (by decide)) zbU)) 2 (zal (zal (fun _ _ _=>zaX))))
   (zaj (zd7 zah (zap c__law_least hr (by decide) rfl (zbd rfl rfl rfl rfl) (zac (zaF (zaa (pv 3)) (zaa (pv 7)) (fun _ _=>rfl)) (zac (zaa (pv 8)) zai))) (zaa (pv 3)) (zaa (pv 7)))))
   (zaj (zaH zar (zaa (pv 3)))))))))
theorem zg1 (T:Tx K mg):VDef P w K mg base "_law_copy" ["_law_net_here"] 1 [false] zaM:=by
 exact za2 (S:=zcN) (n:=1) T.d__law_copy (fun _ _ _ _ _ _ us hl=>by obtain ⟨_,rfl⟩:=ln1 hl;rfl) zgu rfl rfl (by decide) (fun f cdv A outer s H E hr=>
   (zaj (zaH zah (zda zax (zac (zaF (zaa (pv 0)) vri (fun _ _=>rfl)) (zac (zd8 zha rfl T.n_list PyProof.Rows.boot_list (zac (zaF (zaa (pv 0)) vri (fun _ _=>rfl)) zai)) zai))))))
theorem zfq (T:Tx K mg):VDef P w K mg base "is_place" ["count","number"] 1 [false,false] zbk:=by
 exact za2 (S:=zcJ) (n:=2) T.d_is_place (fun _ _ _ _ _ _ us hl=>by obtain ⟨_,_,rfl⟩:=ln2 hl;rfl) zhd rfl rfl (by decide) (fun f cdv A outer s H E hr=>
   (zaj (zaH zar (zhp zf9 zlE vri (zaa (pv 1)) (zaa (pv 0))))))
theorem zjI (T:Tx K mg):VDef P w K mg base "is_road" ["count","road"] 2 [false,false] zch:=by
 have c_is_place:=zfq (P:=P) (w:=w) (base:=base) T;exact za2 (S:=zc2) (n:=5) T.d_is_road (fun _ _ _ _ _ _ us hl=>by obtain ⟨_,_,rfl⟩:=ln2 hl;rfl) sc_is_road rfl rfl (by decide) (fun f cdv A outer s H E hr=>
   (zaf (zeZ zah (zaa (pv 1)) (zcD rfl (zat (zan (zao (i:=2) sc_is_road.nd rfl (Or.inl rfl)) (by decide)) (zat (zan (zao (i:=3) sc_is_road.nd rfl (Or.inl rfl)) (by decide)) (zat (zan (zao (i:=4) sc_is_road.nd rfl (Or.inl rfl)) (by decide)) zbU))) 3 (zal (zal (zal (fun _ _ _=>zaX))))))
   (zaj (zaH zah (zfj (zap c_is_place hr (by decide) rfl (zbd rfl rfl rfl rfl) (zac (zaa (pv 0)) (zac (zaa (pv 2)) zai))) (zfj (zap c_is_place hr (by decide) rfl (zbd rfl rfl rfl rfl) (zac (zaa (pv 0)) (zac (zaa (pv 3)) zai))) (zgv (zhp zf9 zf9 (zoQ zna (zay (zgw rfl T.g_MOST_LENGTH) fun _ _=>.int _)) (zaa (pv 4)) (zay (zgw rfl T.g_MOST_LENGTH) fun _ _=>.int _)))))))))
theorem zgH (T:Tx K mg):VDef P w K mg base "check_net" ["net"] 3 [false] zbR:=by
 have c_is_road:=zjI (P:=P) (w:=w) (base:=base) T;exact za2 (S:=zcp) (n:=5) T.d_check_net (fun _ _ _ _ _ _ us hl=>by obtain ⟨_,rfl⟩:=ln1 hl;rfl) sc_check_net rfl rfl (by decide) (fun f cdv A outer s H E hr=>
   (zaf (zeZ zah (zaa (pv 0)) (zcD rfl (zat (zan (zao (i:=1) sc_check_net.nd rfl (Or.inl rfl)) (by decide)) (zat (zan (zao (i:=2) sc_check_net.nd rfl (Or.inl rfl)) (by decide)) zbU)) 2 (zal (zal (fun _ _ _=>zaX)))))
   (zaf (zcx (zdJ (zfS zf9 zf9 vri (zaa (pv 1)) (zay (zgw rfl T.g_MOST_PLACES) fun _ _=>.int _))) (zaj zfw) zaT)
   (zaf (zcx (zbc zls (zbG zeb rfl T.n_len PySem.boot_len (zac (zaa (pv 2)) zai)) (zay (zgw rfl T.g_MOST_ROADS) fun _ _=>.int _) (zaR _)) (zaj zfw) zaT)
   (zaj (zhc PassesOwn.leaving rfl rfl T.n_enumerate (zaa (pv 2)) (zcD rfl (zat (zan (zao (i:=3) sc_check_net.nd rfl (Or.inl rfl)) (by decide)) (zat (zan (zao (i:=4) sc_check_net.nd rfl (Or.inl rfl)) (by decide)) zbU)) 2 (zal (zal (fun _ _ _=>zaX))))
   (zaj (zcx (zdJ (zey (zap c_is_road hr (by decide) rfl (zbd rfl rfl rfl rfl) (zac (zaa (pv 1)) (zac (zaa (pv 4)) zai))) (fun _=>rfl))) (zaj zfw) zaT))))))))
theorem zfP (T:Tx K mg):VDef P w K mg base "check_place" ["net","number"] 2 [false,false] za7:=by
 have c_is_place:=zfq (P:=P) (w:=w) (base:=base) T;exact za2 (S:=zb0) (n:=2) T.d_check_place (fun _ _ _ _ _ _ us hl=>by obtain ⟨_,_,rfl⟩:=ln2 hl;rfl) zfa rfl rfl (by decide) (fun f cdv A outer s H E hr=>
   (zaj (zcx (zdJ (zey (zap c_is_place hr (by decide) rfl (zbd rfl rfl rfl rfl) (zac (zaF (zaa (pv 0)) vri (fun _ _=>rfl)) (zac (zaa (pv 1)) zai))) (fun _=>rfl))) (zaj zfw) zaT)))
theorem zeH (T:Tx K mg):VDef P w K mg base "check_question" ["net","one","other"] 4 [false,false,false] za9:=by
 have c_check_net:=zgH (P:=P) (w:=w) (base:=base) T;have c_check_place:=zfP (P:=P) (w:=w) (base:=base) T;exact za2 (S:=zbC) (n:=3) T.d_check_question (fun _ _ _ _ _ _ us hl=>by obtain ⟨_,_,_,rfl⟩:=ln3 hl;rfl) zem rfl rfl (by decide) (fun f cdv A outer s H E hr=>
   (zaf (zcM (zap c_check_net hr (by decide) rfl (zbd rfl rfl rfl rfl) (zac (zaa (pv 0)) zai)))
   (zaf (zcM (zap c_check_place hr (by decide) rfl (zbd rfl rfl rfl rfl) (zac (zaa (pv 0)) (zac (zaa (pv 1)) zai))))
   (zaj (zcM (zap c_check_place hr (by decide) rfl (zbd rfl rfl rfl rfl) (zac (zaa (pv 0)) (zac (zaa (pv 2)) zai))))))))
theorem zgm (T:Tx K mg):VDef P w K mg base "lower_once" ["roads","values","entries"] 1 [false,true,true] zbH:=by
 exact za2 (S:=zce) (n:=8) T.d_lower_once (fun _ _ _ _ _ _ us hl=>by obtain ⟨_,_,_,rfl⟩:=ln3 hl;rfl) sc_lower_once rfl rfl (by decide) (fun f cdv A outer s H E hr=>
   (zaf (zaz (i:=3) zah sc_lower_once.nd rfl (Or.inl rfl) (by decide) (zay zbw fun _ _=>.non))
   (zaf (zhc PassesOwn.leaving rfl rfl T.n_enumerate (zaa (pv 0)) (zcD rfl (zat (zan (zao (i:=4) sc_lower_once.nd rfl (Or.inl rfl)) (by decide)) (zat (zcD rfl (zat (zan (zao (i:=5) sc_lower_once.nd rfl (Or.inl rfl)) (by decide)) (zat (zan (zao (i:=6) sc_lower_once.nd rfl (Or.inl rfl)) (by decide)) (zat (zan (zao (i:=7) sc_lower_once.nd rfl (Or.inl rfl)) (by decide)) zbU))) 3 (zal (zal (zal (fun _ _ _=>zaX))))) zbU)) 2 (zal (zal (fun _ _ _=>zaX))))
   (zaj (zcx (zbc zjn (zaS zbY (zaF (zaa (pv 1)) (zaa (pv 5)) (fun _ _=>rfl)) (zaa (pv 7))) (zaF (zaa (pv 1)) (zaa (pv 6)) (fun _ _=>rfl)) (zaR _)) (zaf (zd7 zah (zaS zbY (zaF (zaa (pv 1)) (zaa (pv 5)) (fun _ _=>rfl)) (zaa (pv 7))) (zaa (pv 1)) (zaa (pv 6)))
   (zaf (zd7 zah (zaa (pv 4)) (zaa (pv 2)) (zaa (pv 6)))
   (zaj (zaz (i:=3) zah sc_lower_once.nd rfl (Or.inl rfl) (by decide) (zaa (pv 6)))))) zaT)))
   (zaj (zaH zar (zaa (pv 3)))))))
theorem zl5 (T:Tx K mg):VDef P w K mg base "lower" ["net","starts"] 2 [false,false] zcT:=by
 have c_lower_once:=zgm (P:=P) (w:=w) (base:=base) T;exact za2 (S:=zdH) (n:=8) T.d_lower (fun _ _ _ _ _ _ us hl=>by obtain ⟨_,_,rfl⟩:=ln2 hl;rfl) sc_lower rfl rfl (by decide) (fun f cdv A outer s H E hr=>
   (zaf (zeZ zah (zaa (pv 0)) (zcD rfl (zat (zan (zao (i:=2) sc_lower.nd rfl (Or.inl rfl)) (by decide)) (zat (zan (zao (i:=3) sc_lower.nd rfl (Or.inl rfl)) (by decide)) zbU)) 2 (zal (zal (fun _ _ _=>zaX)))))
   (zaf (zaz (i:=4) zah sc_lower.nd rfl (Or.inl rfl) (by decide) (zd8 zha rfl T.n_list PyProof.Rows.boot_list (zac (zaa (pv 1)) zai)))
   (zaf (zaz (i:=5) zah sc_lower.nd rfl (Or.inl rfl) (by decide) (zaS zc7 (zbN zax (zac (zay zbw fun _ _=>.non) zai)) (zaa (pv 2))))
   (zaf (zaz (i:=6) zah sc_lower.nd rfl (Or.inl rfl) (by decide) (zay zbw fun _ _=>.non))
   (zaf (zcR PassesOwn.leaving rfl rfl T.n_range (zaa (pv 2)) (zan (zao (i:=7) sc_lower.nd rfl (Or.inl rfl)) (by decide))
   (zaf (zaz (i:=6) zah sc_lower.nd rfl (Or.inl rfl) (by decide) (zap c_lower_once hr (by decide) rfl (zbd rfl rfl rfl rfl) (zac (zaa (pv 3)) (zac (zaa (pv 4)) (zac (zaa (pv 5)) zai)))))
   (zaj (zcx (zbc zff (zaa (pv 6)) (zay zbw fun _ _=>.non) (zaR _)) (zaj zjO) zaT))))
   (zaj (zaH zar (zda zeK (zac (zaa (pv 4)) (zac (zaa (pv 5)) (zac (zaa (pv 6)) zai))))))))))))
theorem zgs (T:Tx K mg):VDef P w K mg base "check_taut" ["net"] 3 [false] zbK:=by
 have c_lower:=zl5 (P:=P) (w:=w) (base:=base) T;exact za2 (S:=zcf) (n:=4) T.d_check_taut (fun _ _ _ _ _ _ us hl=>by obtain ⟨_,rfl⟩:=ln1 hl;rfl) sc_check_taut rfl rfl (by decide) (fun f cdv A outer s H E hr=>
   (zaf (zeZ zah (zap c_lower hr (by decide) rfl (zbd rfl rfl rfl rfl) (zac (zaa (pv 0)) (zac (zaS zc7 (zbN zax (zac vri zai)) (zaF (zaa (pv 0)) vri (fun _ _=>rfl))) zai))) (zcD rfl (zat (zan (zao (i:=1) sc_check_taut.nd rfl (Or.inl rfl)) (by decide)) (zat (zan (zao (i:=2) sc_check_taut.nd rfl (Or.inl rfl)) (by decide)) (zat (zan (zao (i:=3) sc_check_taut.nd rfl (Or.inl rfl)) (by decide)) zbU))) 3 (zal (zal (zal (fun _ _ _=>zaX))))))
   (zaj (zcx (zbc zgR (zaa (pv 3)) (zay zbw fun _ _=>.non) (zaR _)) (zaj zfw) zaT))))
theorem zh1 (T:Tx K mg):VDef P w K mg base "together" ["lengths"] 1 [false] zaU:=by
 exact za2 (S:=zcZ) (n:=1) T.d_together (fun _ _ _ _ _ _ us hl=>by obtain ⟨_,rfl⟩:=ln1 hl;rfl) zg4 rfl rfl (by decide) (fun f cdv A outer s H E hr=>
   (zaf (zcx (zbc (zn4 hr.units65) (zay zbw fun _ _=>.non) (zaa (pv 0)) (by with_unfolding_all rfl)) (zaj (zaH zar (zay zbw fun _ _=>.non))) zaT)
   (zaj (zaH zar (zbG (ziu rfl) rfl T.n_sum PyProof.Rows.boot_sum (zac (zaa (pv 0)) zai))))))
theorem ze6 (T:Tx K mg):VDef P w K mg base "one_road_more" ["roads","lengths"] 2 [false,false] zbe:=by
 have c_together:=zh1 (P:=P) (w:=w) (base:=base) T;exact za2 (S:=zcu) (n:=9) T.d_one_road_more (fun _ _ _ _ _ _ us hl=>by obtain ⟨_,_,rfl⟩:=ln2 hl;rfl) sc_one_road_more rfl rfl (by decide) (fun f cdv A outer s H E hr=>
   (zaf (zaz (i:=2) zah sc_one_road_more.nd rfl (Or.inl rfl) (by decide) (zaS zc7 (zbN zax (zac (zay zbw fun _ _=>.non) zai)) (zbG zeb rfl T.n_len PySem.boot_len (zac (zaa (pv 1)) zai))))
   (zaf (zaz (i:=3) zah sc_one_road_more.nd rfl (Or.inl rfl) (by decide) (zaS zc7 (zbN zax (zac (zay zbw fun _ _=>.non) zai)) (zbG zeb rfl T.n_len PySem.boot_len (zac (zaa (pv 1)) zai))))
   (zaf (zhc PassesOwn.leaving rfl rfl T.n_enumerate (zaa (pv 0)) (zcD rfl (zat (zan (zao (i:=4) sc_one_road_more.nd rfl (Or.inl rfl)) (by decide)) (zat (zcD rfl (zat (zan (zao (i:=5) sc_one_road_more.nd rfl (Or.inl rfl)) (by decide)) (zat (zan (zao (i:=6) sc_one_road_more.nd rfl (Or.inl rfl)) (by decide)) (zat (zan (zao (i:=7) sc_one_road_more.nd rfl (Or.inl rfl)) (by decide)) zbU))) 3 (zal (zal (zal (fun _ _ _=>zaX))))) zbU)) 2 (zal (zal (fun _ _ _=>zaX))))
   (zaf (zaz (i:=8) zah sc_one_road_more.nd rfl (Or.inl rfl) (by decide) (zap c_together hr (by decide) rfl (zbd rfl rfl rfl rfl) (zac (zbN zax (zac (zaF (zaa (pv 1)) (zaa (pv 5)) (fun _ _=>rfl)) (zac (zaa (pv 7)) zai))) zai)))
   (zaj (zcx (vt_w (zjk (zbc zgR (zaa (pv 8)) (zay zbw fun _ _=>.non) (zaR _)) (zg2 (vt_w (zfN (zbc zff (zaF (zaa (pv 2)) (zaa (pv 6)) (fun _ _=>rfl)) (zay zbw fun _ _=>.non) (zaR _)) (zga (zbc zjn (zaa (pv 8)) (zaF (zaa (pv 2)) (zaa (pv 6)) (fun _ _=>rfl)) (zaR _)))))))) (zaf (zd7 zah (zaa (pv 8)) (zaa (pv 2)) (zaa (pv 6)))
   (zaj (zd7 zah (zaa (pv 4)) (zaa (pv 3)) (zaa (pv 6))))) zaT))))
   (zaj (zaH zar (zda zeK (zac (zaa (pv 2)) (zac (zaa (pv 3)) zai)))))))))
theorem zfd (T:Tx K mg):VDef P w K mg base "way_of_steps" ["roads","steps","other"] 1 [false,false,false] zbl:=by
 exact za2 (S:=zcI) (n:=6) T.d_way_of_steps (fun _ _ _ _ _ _ us hl=>by obtain ⟨_,_,_,rfl⟩:=ln3 hl;rfl) sc_way_of_steps rfl rfl (by decide) (fun f cdv A outer s H E hr=>
   (zaf (zaz (i:=3) zah sc_way_of_steps.nd rfl (Or.inl rfl) (by decide) (zbN zax zai))
   (zaf (zaz (i:=4) zah sc_way_of_steps.nd rfl (Or.inl rfl) (by decide) (zaa (pv 2)))
   (zaf (zlY PassesOwn.leaving rfl rfl T.n_reversed (zaa (pv 1)) (zan (zao (i:=5) sc_way_of_steps.nd rfl (Or.inl rfl)) (by decide))
   (zaf (zcM (zes (zaa (pv 3)) (zaF (zaa (pv 5)) (zaa (pv 4)) (fun _ _=>rfl)) fun h h'=>zih PySem.F.plainAttrs_list PySem.F.slot_list_append PySem.F.type_list_append zc8 h (zb7 h' zdo)))
   (zaj (zaz (i:=4) zah sc_way_of_steps.nd rfl (Or.inl rfl) (by decide) (zaF (zaF (zaa (pv 0)) (zaF (zaa (pv 5)) (zaa (pv 4)) (fun _ _=>rfl)) (fun _ _=>rfl)) vri (fun _ _=>rfl))))))
   (zaj (zaH zar (zm2 (zaa (pv 3)) zlQ (fun _ _=>⟨_,by with_unfolding_all rfl⟩))))))))
theorem zjr (T:Tx K mg):VDef P w K mg base "counted" ["net","one","other","k"] 5 [false,false,false,false] zaG:=by
 have c_check_question:=zeH (P:=P) (w:=w) (base:=base) T;have c_check_taut:=zgs (P:=P) (w:=w) (base:=base) T;have c_one_road_more:=ze6 (P:=P) (w:=w) (base:=base) T;have c_way_of_steps:=zfd (P:=P) (w:=w) (base:=base) T;exact za2 (S:=zc1) (n:=10) T.d_counted (fun _ _ _ _ _ _ us hl=>by obtain ⟨_,_,_,_,rfl⟩:=ln4 hl;rfl) sc_counted rfl rfl (by decide) (fun f cdv A outer s H E hr=>
   (zaf (zcM (zap c_check_question hr (by decide) rfl (zbd rfl rfl rfl rfl) (zac (zaa (pv 0)) (zac (zaa (pv 1)) (zac (zaa (pv 2)) zai)))))
   (zaf (zcx (zdJ (zfS zf9 zf9 vri (zaa (pv 3)) (zay (zgw rfl T.g_MOST_STEPS) fun _ _=>.int _))) (zaj zfw) zaT)
   (zaf (zcM (zap c_check_taut hr (by decide) rfl (zbd rfl rfl rfl rfl) (zac (zaa (pv 0)) zai)))
   (zaf (zeZ zah (zaa (pv 0)) (zcD rfl (zat (zan (zao (i:=4) sc_counted.nd rfl (Or.inl rfl)) (by decide)) (zat (zan (zao (i:=5) sc_counted.nd rfl (Or.inl rfl)) (by decide)) zbU)) 2 (zal (zal (fun _ _ _=>zaX)))))
   (zaf (zdL (N':=["place","one"]) (js:=[none,some 1]) (i:=6) sc_counted.nd rfl (Or.inl rfl) (by decide) (zaa (pv 4)) rfl T.n_range rfl (by kernel_rfl) (by kernel_rfl) rfl (by decide) (fun _ _ _=>⟨(zan (zao (i:=0) (show List.Nodup [("place":Str),("one":Str)] by decide +kernel) rfl (Or.inl rfl)) (by decide)),zdj,(zpn (zbc (zfe hr.units) (zaa (pv 0)) (zaa (pv 1)) (zaR _)) vri (zay zbw fun _ _=>.non))⟩))
   (zaf (zaz (i:=7) zah sc_counted.nd rfl (Or.inl rfl) (by decide) (zbN zax zai))
   (zaf (zcR PassesOwn.leaving rfl rfl T.n_range (zaa (pv 3)) (zan (zao (i:=8) sc_counted.nd rfl (Or.inl rfl)) (by decide))
   (zaf (zeZ zah (zap c_one_road_more hr (by decide) rfl (zbd rfl rfl rfl rfl) (zac (zaa (pv 5)) (zac (zaa (pv 6)) zai))) (zcD rfl (zat (zan (zao (i:=6) sc_counted.nd rfl (Or.inl rfl)) (by decide)) (zat (zan (zao (i:=9) sc_counted.nd rfl (Or.inl rfl)) (by decide)) zbU)) 2 (zal (zal (fun _ _ _=>zaX)))))
   (zaj (zcM (zes (zaa (pv 7)) (zaa (pv 9)) fun h h'=>zih PySem.F.plainAttrs_list PySem.F.slot_list_append PySem.F.type_list_append zc8 h (zb7 h' zdo))))))
   (zaf (zcx (zbc zff (zaF (zaa (pv 6)) (zaa (pv 2)) (fun _ _=>rfl)) (zay zbw fun _ _=>.non) (zaR _)) (zaj (zaH zar (zay zbw fun _ _=>.non))) zaT)
   (zaj (zaH zah (zda zax (zac (zaF (zaa (pv 6)) (zaa (pv 2)) (fun _ _=>rfl)) (zac (zap c_way_of_steps hr (by decide) rfl (zbd rfl rfl rfl rfl) (zac (zaa (pv 5)) (zac (zaa (pv 7)) (zac (zaa (pv 2)) zai)))) zai))))))))))))))
theorem zez (T:Tx K mg):VDef P w K mg base "_law_whole" ["_law_found"] 1 [false] zaQ:=by
 exact za2 (S:=zct) (n:=1) T.d__law_whole (fun _ _ _ _ _ _ us hl=>by obtain ⟨_,rfl⟩:=ln1 hl;rfl) zfz rfl rfl (by decide) (fun f cdv A outer s H E hr=>
   (zaj (zaH zah (zfj (zht (x:="") rfl T.n_isinstance (zfy (v:=.ty "int") rfl T.n_int PyProof.Rows.boot_int rfl) (by decide) (zaa (pv 0))) (zgv (zn0 (zht (x:="") rfl T.n_isinstance (zfy (v:=.ty "bool") rfl T.n_bool PyProof.Rows.boot_bool rfl) (by decide) (zaa (pv 0)))))))))
theorem zfD (T:Tx K mg):VDef P w K mg base "_law_wholes" ["_law_some"] 2 [false] zaW:=by
 have c__law_whole:=zez (P:=P) (w:=w) (base:=base) T;exact za2 (S:=zcb) (n:=1) T.d__law_wholes (fun _ _ _ _ _ _ us hl=>by obtain ⟨_,rfl⟩:=ln1 hl;rfl) zfc rfl rfl (by decide) (fun f cdv A outer s H E hr=>
   (zaj (zaH zah (zfj (zht (x:="") rfl T.n_isinstance (zfy (v:=.ty "list") rfl T.n_list PyProof.Rows.boot_list rfl) (by decide) (zaa (pv 0))) (zgv (zeS (zfe hr.units) (zbG zeb rfl T.n_len PySem.boot_len (zac (zgf true (N':=["_law_one"]) (js:=[none]) (zaa (pv 0)) rfl (by kernel_rfl) (by kernel_rfl) rfl (by decide) (fun _ _ _=>⟨(zan (zao (i:=0) (show List.Nodup [("_law_one":Str)] by decide +kernel) rfl (Or.inl rfl)) (by decide)),ziC (zdJ (zey (zap c__law_whole hr (by decide) rfl zaK (zac (zaa (pv 0)) zai)) (fun _=>rfl))),(zaa (pv 0))⟩)) zai)) vri (zaR _)))))))
theorem zfT (T:Tx K mg):VDef P w K mg base "_law_is_way" ["_law_net_here","_law_one","_law_other","_law_way"] 1 [false,false,false,false] zaV:=by
 exact za2 (S:=zca) (n:=6) T.d__law_is_way (fun _ _ _ _ _ _ us hl=>by obtain ⟨_,_,_,_,rfl⟩:=ln4 hl;rfl) sc__law_is_way rfl rfl (by decide) (fun f cdv A outer s H E hr=>
   (zaf (zaz (i:=4) zah sc__law_is_way.nd rfl (Or.inl rfl) (by decide) (zaa (pv 1)))
   (zaf (zd1 PassesOwn.leaving rfl (zaa (pv 3)) (zan (zao (i:=5) sc__law_is_way.nd rfl (Or.inl rfl)) (by decide))
   (zaf (zcx (vt_w (zfN (zdJ (zfS zf9 zlE vri (zaa (pv 5)) (zbG zeb rfl T.n_len PySem.boot_len (zac (zaF (zaa (pv 0)) vri (fun _ _=>rfl)) zai)))) (zga (zbc (zin hr.units) (zaF (zaF (zaF (zaa (pv 0)) vri (fun _ _=>rfl)) (zaa (pv 5)) (fun _ _=>rfl)) vri (fun _ _=>rfl)) (zaa (pv 4)) (zaR _))))) (zaj (zaH zar vrb)) zaT)
   (zaj (zaz (i:=4) zah sc__law_is_way.nd rfl (Or.inl rfl) (by decide) (zaF (zaF (zaF (zaa (pv 0)) vri (fun _ _=>rfl)) (zaa (pv 5)) (fun _ _=>rfl)) vri (fun _ _=>rfl))))))
   (zaj (zaH zar (zeS (zfe hr.units) (zaa (pv 4)) (zaa (pv 2)) (zaR _)))))))
theorem zhf (T:Tx K mg):VDef P w K mg base "_law_long" ["_law_net_here","_law_way"] 1 [false,false] zbh:=by
 exact za2 (S:=zcO) (n:=2) T.d__law_long (fun _ _ _ _ _ _ us hl=>by obtain ⟨_,_,rfl⟩:=ln2 hl;rfl) zgx rfl rfl (by decide) (fun f cdv A outer s H E hr=>
   (zaj (zaH zah (zbG (ziu rfl) rfl T.n_sum PyProof.Rows.boot_sum (zac (zgf true (N':=["_law_number_here","_law_net_here"]) (js:=[none,some 0]) (zaa (pv 1)) rfl (by kernel_rfl) (by kernel_rfl) rfl (by decide) (fun _ _ _=>⟨(zan (zao (i:=0) (show List.Nodup [("_law_number_here":Str),("_law_net_here":Str)] by decide +kernel) rfl (Or.inl rfl)) (by decide)),zdj,(zaF (zaF (zaF (zaa (pv 1)) vri (fun _ _=>rfl)) (zaa (pv 0)) (fun _ _=>rfl)) vri (fun _ _=>rfl))⟩)) zai)))))
theorem zf0 (T:Tx K mg):VDef P w K mg base "_law_right" ["_law_net_here","_law_one","_law_other","_law_k","_law_due"] 6 [false,false,false,false,false] zbQ:=by
 have c__law_copy:=zg1 (P:=P) (w:=w) (base:=base) T;have c_counted:=zjr (P:=P) (w:=w) (base:=base) T;have c__law_whole:=zez (P:=P) (w:=w) (base:=base) T;have c__law_wholes:=zfD (P:=P) (w:=w) (base:=base) T;have c__law_is_way:=zfT (P:=P) (w:=w) (base:=base) T;have c__law_long:=zhf (P:=P) (w:=w) (base:=base) T;exact za2 (S:=za5) (n:=10) T.d__law_right (fun _ _ _ _ _ _ us hl=>by obtain ⟨_,_,_,_,_,rfl⟩:=ln5 hl;rfl) sc__law_right rfl rfl (by decide) (fun f cdv A outer s H E hr=>
   (zaf (zaz (i:=5) zah sc__law_right.nd rfl (Or.inl rfl) (by decide) (zap c__law_copy hr (by decide) rfl (zbd rfl rfl rfl rfl) (zac (zaa (pv 0)) zai)))
   (zaf (zaz (i:=6) zah sc__law_right.nd rfl (Or.inl rfl) (by decide) (zap c_counted hr (by decide) rfl (zbd rfl rfl rfl rfl) (zac (zaa (pv 0)) (zac (zaa (pv 1)) (zac (zaa (pv 2)) (zac (zaa (pv 3)) zai))))))
   (zaf (zcx (zbc zff (zaa (pv 4)) (zay zbw fun _ _=>.non) (zaR _)) (zaj (zaH zar (zfj (zeS zff (zaa (pv 6)) (zay zbw fun _ _=>.non) (zaR _)) (zgv (zeS (zfe hr.units) (zaa (pv 0)) (zaa (pv 5)) (zaR _)))))) zaT)
   (zaf (zcx (vt_w (zfN (zdJ (zey (zht (x:="") rfl T.n_isinstance (zfy (v:=.ty "tuple") rfl T.n_tuple PyProof.Rows.boot_tuple rfl) (by decide) (zaa (pv 6))) (fun _=>rfl))) (zfN (zbc (zin hr.units) (zbG zeb rfl T.n_len PySem.boot_len (zac (zaa (pv 6)) zai)) vri (zaR _)) (zfN (zdJ (zey (zap c__law_whole hr (by decide) rfl (zbd rfl rfl rfl rfl) (zac (zaF (zaa (pv 6)) vri (fun _ _=>rfl)) zai)) (fun _=>rfl))) (zga (zdJ (zey (zap c__law_wholes hr (by decide) rfl (zbd rfl rfl rfl rfl) (zac (zaF (zaa (pv 6)) vri (fun _ _=>rfl)) zai)) (fun _=>rfl)))))))) (zaj (zaH zar vrb)) zaT)
   (zaf (zeZ zar (zaa (pv 6)) (zcD rfl (zat (zan (zao (i:=7) sc__law_right.nd rfl (Or.inl rfl)) (by decide)) (zat (zan (zao (i:=8) sc__law_right.nd rfl (Or.inl rfl)) (by decide)) zbU)) 2 (zal (zal (fun _ _ _=>zaX)))))
   (zaf (zcx (vt_w (zfN (zbc (zin hr.units) (zaa (pv 7)) (zaa (pv 4)) (zaR _)) (zfN (zbc (zin hr.units) (zbG zeb rfl T.n_len PySem.boot_len (zac (zaa (pv 8)) zai)) (zaa (pv 3)) (zaR _)) (zfN (zdJ (zey (zap c__law_is_way hr (by decide) rfl (zbd rfl rfl rfl rfl) (zac (zaa (pv 0)) (zac (zaa (pv 1)) (zac (zaa (pv 2)) (zac (zaa (pv 8)) zai))))) (fun _=>rfl))) (zga (zbc (zin hr.units) (zap c__law_long hr (by decide) rfl (zbd rfl rfl rfl rfl) (zac (zaa (pv 0)) (zac (zaa (pv 8)) zai))) (zaa (pv 4)) (zaR _))))))) (zaj (zaH zar vrb)) zaT)
   (zaf (zaz (i:=9) zah sc__law_right.nd rfl (Or.inl rfl) (by decide) (zd8 zha rfl T.n_list PyProof.Rows.boot_list (zac (zaa (pv 8)) zai)))
   (zaf (zcM (zes (zaa (pv 8)) vri fun h h'=>zih PySem.F.plainAttrs_list PySem.F.slot_list_append PySem.F.type_list_append zc8 h (zb7 h' zdo)))
   (zaj (zaH zah (zfj (zeS (zfe hr.units) (zap c_counted hr (by decide) rfl (zbd rfl rfl rfl rfl) (zac (zaa (pv 0)) (zac (zaa (pv 1)) (zac (zaa (pv 2)) (zac (zaa (pv 3)) zai))))) (zda zax (zac (zaa (pv 4)) (zac (zaa (pv 9)) zai))) (zaR _)) (zgv (zeS (zfe hr.units) (zaa (pv 0)) (zaa (pv 5)) (zaR _)))))))))))))))
theorem zmD (T:Tx K mg):zhM P w K mg base "law" ["_law_script"] 7 (zhq K):=by
 have c__law_purse:=zfY (P:=P) (w:=w) (base:=base) T;have c__law_full:=zgV (P:=P) (w:=w) (base:=base) T;have c__law_draw:=zdf (P:=P) (w:=w) (base:=base) T;have c__law_calm:=zgW (P:=P) (w:=w) (base:=base) T;have c__law_gone:=zg8 (P:=P) (w:=w) (base:=base) T;have c__law_all_ways:=zeT (P:=P) (w:=w) (base:=base) T;have c__law_right:=zf0 (P:=P) (w:=w) (base:=base) T;exact zmW (S:=zei) (n:=10) T.d_law (fun _ _ _ _ _ _ us hl=>by obtain ⟨_,rfl⟩:=ln1 hl;rfl) sc_law rfl (by decide) (fun f cdv A outer s H E hr=>
   (zaf (zcR PassesOwn.never rfl rfl T.n_range vri (zan (zao (i:=1) sc_law.nd rfl (Or.inl rfl)) (by decide))
   (zaf (zaz (i:=2) zah sc_law.nd rfl (Or.inl rfl) (by decide) (zap c__law_purse hr (by decide) rfl zaK (zac (zaa (pv 0)) (zac (zaa (pv 1)) zai))))
   (zaf (zaz (i:=3) zah sc_law.nd rfl (Or.inl rfl) (by decide) (zap c__law_full hr (by decide) rfl zaK (zac (zaa (pv 2)) (zac vri (zac vri zai)))))
   (zaf (zcx (zbc (zfe hr.units) (zap c__law_draw hr (by decide) rfl zaK (zac (zaa (pv 2)) (zac vri zai))) vri (zaR _)) (zaj (zaz (i:=3) zah sc_law.nd rfl (Or.inl rfl) (by decide) (zap c__law_calm hr (by decide) rfl zaK (zac (zaa (pv 2)) zai)))) zaT)
   (zaf (zaz (i:=4) zah sc_law.nd rfl (Or.inl rfl) (by decide) (zaS zbY (zbN zax (zac (zlu (zap c__law_draw hr (by decide) rfl zaK (zac (zaa (pv 2)) (zac (zaF (zaa (pv 3)) vri (fun _ _=>rfl)) zai)))) zai)) (zgf true (N':=["_law_road"]) (js:=[none]) (znG (zaF (zaa (pv 3)) vri (fun _ _=>rfl)) zi4 (ziA vri)) rfl (by kernel_rfl) (by kernel_rfl) rfl (by decide) (fun _ _ _=>⟨(zan (zao (i:=0) (show List.Nodup [("_law_road":Str)] by decide +kernel) rfl (Or.inl rfl)) (by decide)),zdj,(zaF (zaa (pv 0)) vri (fun _ _=>rfl))⟩))))
   (zaj (zd1 PassesOwn.never rfl (zaa (pv 4)) (zan (zao (i:=5) sc_law.nd rfl (Or.inl rfl)) (by decide))
   (zaf (zaz (i:=6) zah sc_law.nd rfl (Or.inl rfl) (by decide) (zaS zbY (zbN zax (zac (zlu (zap c__law_draw hr (by decide) rfl zaK (zac (zaa (pv 2)) (zac (zaF (zaa (pv 3)) vri (fun _ _=>rfl)) zai)))) (zac (zaa (pv 5)) zai))) (zgf true (N':=["_law_road"]) (js:=[none]) (znG (zaF (zaa (pv 3)) vri (fun _ _=>rfl)) zi4 (ziA vri)) rfl (by kernel_rfl) (by kernel_rfl) rfl (by decide) (fun _ _ _=>⟨(zan (zao (i:=0) (show List.Nodup [("_law_road":Str)] by decide +kernel) rfl (Or.inl rfl)) (by decide)),zdj,(zaF (zaa (pv 0)) vri (fun _ _=>rfl))⟩))))
   (zaj (zd1 PassesOwn.never rfl (zbN zax (zac vri (zac vri (zac vri (zac vri (zac vri (zac (zaF (zbN zax (zac (zap c__law_draw hr (by decide) rfl zaK (zac (zaa (pv 2)) (zac vri zai))) (zac (zaS zbY vri (zap c__law_draw hr (by decide) rfl zaK (zac (zaa (pv 2)) (zac vri zai)))) zai))) (zap c__law_draw hr (by decide) rfl zaK (zac (zaa (pv 2)) (zac vri zai))) (fun _ _=>rfl)) (zac vri zai)))))))) (zan (zao (i:=7) sc_law.nd rfl (Or.inl rfl)) (by decide))
   (zaf (zaz (i:=8) zah sc_law.nd rfl (Or.inl rfl) (by decide) (zap c__law_gone hr (by decide) rfl zaK (zac (zaa (pv 3)) (zac (zaa (pv 5)) (zac (zaa (pv 7)) zai)))))
   (zaf (zcx (vt_w (zjk (zbc zjn (zaa (pv 7)) vri (zaR _)) (zg2 (zbc (zin hr.units) (zaa (pv 8)) (zap c__law_all_ways hr (by decide) rfl zaK (zac (zaa (pv 3)) (zac (zaa (pv 5)) (zac (zaa (pv 7)) zai)))) (zaR _))))) (zaj (zaH zar vrb)) zaT)
   (zaj (zd1 PassesOwn.never rfl (zaa (pv 6)) (zan (zao (i:=9) sc_law.nd rfl (Or.inl rfl)) (by decide))
   (zaj (zcx (zdJ (zey (zap c__law_right hr (by decide) rfl zaK (zac (zaa (pv 3)) (zac (zaa (pv 5)) (zac (zaa (pv 9)) (zac (zaa (pv 7)) (zac (zaF (zaa (pv 8)) (zaa (pv 9)) (fun _ _=>rfl)) zai)))))) (fun _=>rfl))) (zaj (zaH zar vrb)) zaT))))))))))))))))
   (zaj (zaH zar vrb)))) zfW
theorem znQ {K:PySem.W.Frag} {h:Heap} {mg:Str->Option Value} (X:K.In h) (G:h.Ns mainGlobals mg) (e:oo PySem.Challenge.pw_tautroads_k34_so_many_roads K=dd PySem.Challenge.pw_tautroads_k34_so_many_roads):Tx K mg:=by
 obtain ⟨e1,e⟩:=Prod.mk.inj e;obtain ⟨e2,e⟩:=Prod.mk.inj e;obtain ⟨e3,e4⟩:=Prod.mk.inj e;exact {
  d__law_at:=L2.zaY X G rfl (L2.zaE e1 0 (a:=zeX) rfl)
  d__law_purse:=L2.zaY X G rfl (L2.zaE e1 1 (a:=zdB) rfl)
  d__law_mixed:=L2.zaY X G rfl (L2.zaE e1 2 (a:=zdw) rfl)
  d__law_draw:=L2.zaY X G rfl (L2.zaE e1 3 (a:=zdV) rfl)
  d__law_number:=L2.zaY X G rfl (L2.zaE e1 4 (a:=zdi) rfl)
  d__law_net:=L2.zaY X G rfl (L2.zaE e1 5 (a:=zeu) rfl)
  d__law_full:=L2.zaY X G rfl (L2.zaE e1 6 (a:=zd3) rfl)
  d__law_calm:=L2.zaY X G rfl (L2.zaE e1 7 (a:=zdR) rfl)
  d__law_least:=L2.zaY X G rfl (L2.zaE e1 8 (a:=zdF) rfl)
  d__law_sum:=L2.zaY X G rfl (L2.zaE e1 9 (a:=zet) rfl)
  d__law_gone:=L2.zaY X G rfl (L2.zaE e1 10 (a:=zdW) rfl)
  d__law_all_ways:=L2.zaY X G rfl (L2.zaE e1 11 (a:=zcP) rfl)
  d__law_copy:=L2.zaY X G rfl (L2.zaE e1 12 (a:=zdZ) rfl)
  d_is_place:=L2.zaY X G rfl (L2.zaE e1 13 (a:=zek) rfl)
  d_is_road:=L2.zaY X G rfl (L2.zaE e1 14 (a:=zeN) rfl)
  d_check_net:=L2.zaY X G rfl (L2.zaE e1 15 (a:=zdX) rfl)
  d_check_place:=L2.zaY X G rfl (L2.zaE e1 16 (a:=zde) rfl)
  d_check_question:=L2.zaY X G rfl (L2.zaE e1 17 (a:=zcr) rfl)
  d_lower_once:=L2.zaY X G rfl (L2.zaE e1 18 (a:=zdD) rfl)
  d_lower:=L2.zaY X G rfl (L2.zaE e1 19 (a:=zgM) rfl)
  d_check_taut:=L2.zaY X G rfl (L2.zaE e1 20 (a:=zdI) rfl)
  d_together:=L2.zaY X G rfl (L2.zaE e1 21 (a:=zer) rfl)
  d_one_road_more:=L2.zaY X G rfl (L2.zaE e1 22 (a:=zcL) rfl)
  d_way_of_steps:=L2.zaY X G rfl (L2.zaE e1 23 (a:=zcY) rfl)
  d_counted:=L2.zaY X G rfl (L2.zaE e1 24 (a:=ze4) rfl)
  d__law_whole:=L2.zaY X G rfl (L2.zaE e1 25 (a:=zdE) rfl)
  d__law_wholes:=L2.zaY X G rfl (L2.zaE e1 26 (a:=zdd) rfl)
  d__law_is_way:=L2.zaY X G rfl (L2.zaE e1 27 (a:=zdg) rfl)
  d__law_long:=L2.zaY X G rfl (L2.zaE e1 28 (a:=zdU) rfl)
  d__law_right:=L2.zaY X G rfl (L2.zaE e1 29 (a:=zdG) rfl)
  d_law:=L2.zaY X G rfl (L2.zaE e1 30 (a:=zgT) rfl)
  n_bool:=L2.zdy X G (L2.zaE e2 0 rfl)
  n_enumerate:=L2.zdy X G (L2.zaE e2 1 rfl)
  n_int:=L2.zdy X G (L2.zaE e2 2 rfl)
  n_isinstance:=L2.zdy X G (L2.zaE e2 3 rfl)
  n_len:=L2.zdy X G (L2.zaE e2 4 rfl)
  n_list:=L2.zdy X G (L2.zaE e2 5 rfl)
  n_max:=L2.zdy X G (L2.zaE e2 6 rfl)
  n_range:=L2.zdy X G (L2.zaE e2 7 rfl)
  n_reversed:=L2.zdy X G (L2.zaE e2 8 rfl)
  n_sum:=L2.zdy X G (L2.zaE e2 9 rfl)
  n_tuple:=L2.zdy X G (L2.zaE e2 10 rfl)
  g_MOST_LENGTH:=L2.zfK X G (L2.zfA e3 0 rfl rfl)
  g_MOST_PLACES:=L2.zfK X G (L2.zfA e3 1 rfl rfl)
  g_MOST_ROADS:=L2.zfK X G (L2.zfA e3 2 rfl rfl)
  g_MOST_STEPS:=L2.zfK X G (L2.zfA e3 3 rfl rfl)
  }
end My
end
open PySem PySem.W PyProof.Rows
set_option maxRecDepth 100000 in
set_option maxHeartbeats 0 in
theorem PySem.Challenge.cw_tautroads_k34_so_many_roads_holds : PySem.Challenge.rw_tautroads_k34_so_many_roads.Holds := by
 w_on;o_law
 refine holds_open (d:=⟨"law",L2.zdh My.zgT,L2.zb3 My.zgT,L2.zak My.zgT,L2.zmy My.zgT⟩) (kwd:=[]) (q:=My.QQ PySem.Challenge.pw_tautroads_k34_so_many_roads) (Xt:=My.Xt PySem.Challenge.pw_tautroads_k34_so_many_roads) (XP:=XL (My.QQ PySem.Challenge.pw_tautroads_k34_so_many_roads) My.lv)
  My.left (L2.zeR (My.oo PySem.Challenge.pw_tautroads_k34_so_many_roads) (My.dd PySem.Challenge.pw_tautroads_k34_so_many_roads)).of (L2.zeR (My.oo PySem.Challenge.pw_tautroads_k34_so_many_roads) (My.dd PySem.Challenge.pw_tautroads_k34_so_many_roads)).keeps (fun s e=>xl_of s (Bool.and_eq_true_iff.mp e).1) XL.keeps (by kernel_rfl) (by kernel_rfl) (by kernel_rfl) (fun s e=>recFacts_of (Bool.and_eq_true_iff.mp e).2) (by kernel_rfl) (by assumption) (by first | k_qdec | decide +kernel) ⟨rfl,rfl,rfl,rfl,rfl,by decide +kernel⟩ ?hw ?hc
 case hw=>w_witness2
 case hc=>
  refine L2.zka (l:=PySem.Challenge.rw_tautroads_k34_so_many_roads) (n:=63) (k:=7) (x:="_law_script") (CX:=L2.CX0) (sp:=L2.zhq) rfl (by decide) rfl ⟨rfl,by decide,by decide⟩ ?F ?S ?C
  case F=>
   intro w K mg fa h KX G e hmg
   have T:My.Tx K mg:=My.znQ KX G e
   exact L2.zo8 T.d_law (fun _ _ _ _ _ _ _=>rfl) (fun base=>My.zmD (base:=base) T) hmg
  case S=>exact fun K H a ns hl hO hS=>L2.zk4 hl hO hS
  case C=>exact fun _ _ _ _ z=>z


