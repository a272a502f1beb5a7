import PyProof.Rows.All
import Wide.All
import OpenK.AllK
import Wide.FinOn
import Lean
import PyProof.EqAt
import PyProof.EqKinds
import PyProof.TupleCall
import PySem.Challenge.RW_tautroads_k43_whole_nets_beside_one_anot
set_option genSizeOf false
set_option genInjectivity false
set_option Elab.async false
set_option compiler.extract_closed false
set_option bootstrap.genMatcherCode false
set_option linter.all false
set_option maxRecDepth 100000
noncomputable section
namespace L2
open PySem PySem.Spec PyProof.Rows
abbrev Key:=Sum Int Str
def zpQ:Key->Value->Bool
 | .inl k,v=>Value.isInt k v
 | .inr x,v=>Value.isStrOf x v
def keyH (w:World):Key->Int
 | .inl k=>hashInt k
 | .inr x=>hashStr w x
theorem zbT:∀{k:Key} {v:Value},zpQ k v=true->(∃i t,k=Sum.inl i/\v=Value.int i t)\/(∃x t,k=Sum.inr x/\v=Value.str x t)
 | .inl i,v,h=>by
  obtain ⟨t,e⟩:=Value.isInt_shape (k:=i) (v:=v) h;exact .inl ⟨i,t,rfl,e⟩
 | .inr x,v,h=>by
  obtain ⟨t,e⟩:=Value.isStrOf_shape (x:=x) (v:=v) h;exact .inr ⟨x,t,rfl,e⟩
theorem zqT (a b:Int):decide ((Sum.inl a:Key)=Sum.inl b)=(a==b):=by
 by_cases e:a=b
 .subst e;simp
 .have h:¬(Sum.inl a:Key)=Sum.inl b:=fun q=>e (Sum.inl.inj q)
  rw[decide_eq_false h];exact (beq_eq_false_iff_ne.mpr e).symm
theorem zp8 (a b:Str):decide ((Sum.inr a:Key)=Sum.inr b)=decide (a=b):=by
 by_cases e:a=b
 .subst e;simp
 .have h:¬(Sum.inr a:Key)=Sum.inr b:=fun q=>e (Sum.inr.inj q)
  rw[decide_eq_false h,decide_eq_false e]
theorem zpW (a:Int) (b:Str):decide ((Sum.inl a:Key)=Sum.inr b)=false:=decide_eq_false (fun q=>nomatch q)
theorem zpO (a:Str) (b:Int):decide ((Sum.inr a:Key)=Sum.inl b)=false:=decide_eq_false (fun q=>nomatch q)
def zjq (prog:Program) (w:World):PySem.KeyKind prog w Key where
 is:=zpQ
 hash:=keyH w
 inj:=fun v a b ha hb=>by
  rcases zbT ha with ⟨i,t,rfl,rfl⟩ | ⟨x,t,rfl,rfl⟩
  .rcases zbT hb with ⟨j,u,rfl,e⟩ | ⟨y,u,rfl,e⟩
   .injection e with e1 _;rw[e1]
   .exact nomatch e
  .rcases zbT hb with ⟨j,u,rfl,e⟩ | ⟨y,u,rfl,e⟩
   .exact nomatch e
   .injection e with e1 _;rw[e1]
 byValue:=fun k v h=>by
  rcases zbT h with ⟨i,t,rfl,rfl⟩ | ⟨x,t,rfl,rfl⟩<;>rfl
 pyHash:=fun hv h=>by
  rcases zbT hv with ⟨i,t,rfl,rfl⟩ | ⟨x,t,rfl,rfl⟩
  .exact wpAny_pyHash_int h
  .exact wpAny_pyHash_str h
 eqBool:=fun hu hv h=>by
  rcases zbT hu with ⟨i,t,rfl,rfl⟩ | ⟨x,t,rfl,rfl⟩
  .rcases zbT hv with ⟨j,u,rfl,rfl⟩ | ⟨y,u,rfl,rfl⟩
   .rw[zqT] at h;exact wpAny_eqBool_int h
   .rw[zpW] at h;exact SeqAt.EqAt.int_str i t y u _ _ _ _ h
  .rcases zbT hv with ⟨j,u,rfl,rfl⟩ | ⟨y,u,rfl,rfl⟩
   .rw[zpO] at h;exact SeqAt.EqAt.str_int x t j u _ _ _ _ h
   .rw[zp8] at h;exact wpAny_eqBool_str h
 «strs»:=fun k x t v h=>by
  rcases zbT h with ⟨i,u,rfl,e⟩ | ⟨y,u,rfl,e⟩
  .exact nomatch e
  .injection e with e1 _
   subst e1
   cases v<;>rfl
inductive V where
 | non | bl (b:Bool) | int (i:Int) | str (x:Str) | byt (b:Array UInt8) | flt (b:UInt64) | ref (a:Addr) | ty (n:String)
 deriving DecidableEq
def RelV:V->Value->Prop
 | .non,u=>u=Value.none
 | .bl b,u=>u=Value.bool b
 | .int i,u=>∃t,u=Value.int i t
 | .str x,u=>∃t,u=Value.str x t
 | .byt b,u=>∃t,u=Value.bytes b t
 | .flt b,u=>∃t,u=Value.float b t
 | .ref a,u=>u=Value.ref a
 | .ty n,u=>u=Value.type n
abbrev Vals:List V->List Value->Prop:=Paired RelV
theorem Vals.length {xs:List V} {us:List Value} (r:Vals xs us):xs.length=us.length:=Paired.length r
theorem Vals.get:∀{xs:List V} {us:List Value} {i:Nat} {x:V},Vals xs us->xs[i]? = some x->∃u,us[i]? = some u/\RelV x u
 | _,_,_,_,.nil,e=>by simp at e
 | _,_,0,_,.cons r _,e=>by simp at e;subst e;exact ⟨_,rfl,r⟩
 | _,_,i+1,x,.cons _ t,e=>by
  obtain ⟨u,h1,h2⟩:=Vals.get (i:=i) (x:=x) t (by simpa using e);exact ⟨u,by simpa using h1,h2⟩
theorem Vals.set {x:V} {u:Value} (r:RelV x u):∀{xs:List V} {us:List Value} (i:Nat),Vals xs us->Vals (xs.set i x) (us.set i u)
 | _,_,_,.nil=>.nil
 | _,_,0,.cons _ t=>.cons r t
 | _,_,i+1,.cons q t=>.cons q (Vals.set r i t)
theorem Vals.append:∀{xs ys:List V} {us ws:List Value},Vals xs us->Vals ys ws->Vals (xs++ys) (us++ws)
 | _,_,_,_,.nil,s=>s
 | _,_,_,_,.cons r t,s=>.cons r (Vals.append t s)
theorem Vals.take:∀{xs:List V} {us:List Value} (n:Nat),Vals xs us->Vals (xs.take n) (us.take n)
 | _,_,0,_=>.nil
 | _,_,_+1,.nil=>.nil
 | _,_,n+1,.cons r t=>.cons r (Vals.take n t)
theorem Vals.drop:∀{xs:List V} {us:List Value} (n:Nat),Vals xs us->Vals (xs.drop n) (us.drop n)
 | _,_,0,r=>r
 | _,_,_+1,.nil=>.nil
 | _,_,n+1,.cons _ t=>Vals.drop n t
def RelO:Option V->Option Value->Prop
 | some v,some u=>RelV v u
 | none,none=>True
 | _,_=>False
def KV {κ:Type}:List (κ×V)->List (κ×Value)->Prop:=Paired fun (p:κ×V) (q:κ×Value)=>p.1=q.1/\RelV p.2 q.2
def kV:Key->V
 | .inl i=>.int i
 | .inr x=>.str x
inductive HO where
 /-- a list -/
 | lst (xs:List V)
 /-- a tuple (never changes) -/
 | tup (xs:List V)
 /-- a dict whose keys are ints and texts;one whose keys are tuples of ints and texts (the empty one is both) -/
 | dK (kvs:List (Key×V)) | dT (kvs:List (List Key×V))
 /-- a set of ints: its members,its size -/
 | set (S:Int->Bool) (n:Nat)
 /-- an instance of the class at C,its dict at dx,its attributes -/
 | ins (C dx:Addr) (fs:List (Str×V))
 /-- the dict of the instance at x -/
 | own (x:Addr)
 /-- the dict of an exception -/
 | xd (fs:List (Str×V))
 /-- a bound method,f of x -/
 | met (f x:Addr)
 /-- a range object lo,lo+1,.. below hi -/
 | rng (lo hi:Int)
 /-- a thing that is known to the object (the script;a dict while a loop walks it): read,never written while it is so -/
 | frz (o:Obj) (u:HO)
 /-- a code object's table -/
 | tbl (ps:Array Value)
 /-- any other thing,by what is true of its one object (a def of one's own: SetO a S n:=HO.ext fun h=>..) -/
 | ext (φ:Heap->Prop)
abbrev Hp:=Addr->Option HO
def upd (H:Hp) (a:Addr) (o:HO):Hp:=fun b=>if b=a then some o else H b
theorem zbG {H:Hp} {a:Addr} {o:HO}:upd H a o a=some o:=by unfold upd;rw[if_pos rfl]
theorem zaJ {H:Hp} {a b:Addr} {o:HO} (h:b≠a):upd H a o b=H b:=by unfold upd;rw[if_neg h]
theorem zaH {H:Hp} {a b:Addr} {o:HO} (h:H a=some o) (h':H b=none):a≠b:=by
 intro e;subst e;rw[h] at h';cases h'
section
variable (P:Program) (w:World)
def ObjOk (H:Hp) (h:Heap) (a:Addr):HO->Prop
 | .lst xs=>xs.length<=sizeLine/\∃(its:List Value) (n:Nat),Vals xs its/\h.get? a=some { cls:=.type "list",data:=.seq its.toArray n }
 | .tup xs=>xs.length<=sizeLine/\∃its:List Value,Vals xs its/\IsTup h a its.toArray
 | .dK kvs=>kvs.length<=sizeLine/\(a==sysModules)=false/\∃vs,KV kvs vs/\h.DictOf (zjq P w) a vs
 | .dT kvs=>kvs.length<=sizeLine/\(a==sysModules)=false/\∃xs:List (List Key×Addr×Value),
   Paired (fun (p:List Key×V) (q:List Key×Addr×Value)=>p.1=q.1/\H q.2.1=some (.tup (p.1.map kV))/\RelV p.2 q.2.2) kvs xs/\
   ∃o es ep,h.get? a=some o/\o.ExactDict/\o.data=.dict es ep/\es.toList=xs.map (entryOfKey (tupleKind (zjq P w)))/\(xs.map (·.1)).Nodup
 | .set S n=>h.SetOf (intKind P w) a S n
 | .ins C dx fs=>H dx=some (.own a)/\fs.length<=1000/\dx≠a/\h.get? a=some (PySem.W.instObj C dx)/\
   ∃mA,h.Ns1 dx mA/\(∀f,RelO (fs.lookup f) (mA f))/\PySem.Within mA (fs.map (·.1))
 | .own _=>∃o,h.get? a=some o
 | .xd fs=>∃mA,h.Ns1 a mA/\∀f,RelO (fs.lookup f) (mA f)
 | .rng lo hi=>∃t u v,h.get? a=some { cls:=.type "range",data:=.fields #[.int lo t,.int hi u,.int 1 v] }
 | .frz o u=>h.get? a=some o/\ObjOk H h a u
 | .tbl ps=>h.get? a=some { cls:=.none,data:=.fields ps }
 | .met f x=>h.get? a=some (PySem.W.methodObj (.ref f) (.ref x))
 | .ext φ=>φ h/\(∃o,h.get? a=some o)/\∀h1 h2:Heap,φ h1->(∀o,h1.get? a=some o->h2.get? a=some o)->φ h2
def HOk (H:Hp) (h:Heap):Prop:=∀a o,H a=some o->ObjOk P w H h a o
end
section
variable {P:Program} {w:World} {H H':Hp} {h h':Heap} {a:Addr} {o:HO}
theorem ObjOk.lt (x:ObjOk P w H h a o):a < h.objs.size:=by
 cases o with
 | lst xs=>obtain ⟨_,_,_,_,e⟩:=x;exact Heap.lt_size e
 | tup xs=>obtain ⟨_,_,_,p⟩:=x;exact p.lt
 | dK kvs=>obtain ⟨_,_,_,_,o,_,_,e,_⟩:=x;exact Heap.lt_size e
 | dT kvs=>obtain ⟨_,_,_,_,o,_,_,e,_⟩:=x;exact Heap.lt_size e
 | set S n=>obtain ⟨o,_,_,_,e,_⟩:=x;exact Heap.lt_size e
 | ins C dx fs=>obtain ⟨_,_,_,e,_⟩:=x;exact Heap.lt_size e
 | own y=>obtain ⟨_,e⟩:=x;exact Heap.lt_size e
 | xd fs=>obtain ⟨_,⟨_,_,_,e,_⟩,_⟩:=x;exact Heap.lt_size e
 | rng lo hi=>obtain ⟨_,_,_,e⟩:=x;exact Heap.lt_size e
 | frz ob u=>obtain ⟨e,_⟩:=x;exact Heap.lt_size e
 | tbl ps=>exact Heap.lt_size (show h.get? a=some _ from x)
 | met f y=>exact Heap.lt_size (show h.get? a=some _ from x)
 | ext φ=>obtain ⟨_,⟨_,e⟩,_⟩:=x;exact Heap.lt_size e
theorem Paired.mapP {α β:Type} {F G:α->β->Prop} {l₁:List α} {l₂:List β} (h:Paired F l₁ l₂) (f:∀a b,F a b->G a b):Paired G l₁ l₂:=by
 induction h with
 | nil=>exact .nil
 | cons r t ih=>exact .cons (f _ _ r) ih
theorem ObjOk.stay (x:ObjOk P w H h a o) (k:∀b u,(b=a\/H b=some (.own a))->h.get? b=some u->h'.get? b=some u)
  (ho:∀b,H b=some (.own a)->H' b=some (.own a)) (ht:∀b xs,H b=some (.tup xs)->H' b=some (.tup xs)):ObjOk P w H' h' a o:=by
 induction o with
 | lst xs=>obtain ⟨z,its,n,r,e⟩:=x;exact ⟨z,its,n,r,k _ _ (.inl rfl) e⟩
 | tup xs=>obtain ⟨z,its,r,ob,e,c⟩:=x;exact ⟨z,its,r,ob,k _ _ (.inl rfl) e,c⟩
 | dK kvs=>obtain ⟨z,y,vs,r,ob,es,ep,e,c⟩:=x;exact ⟨z,y,vs,r,ob,es,ep,k _ _ (.inl rfl) e,c⟩
 | dT kvs=>
  obtain ⟨z,y,xs,r,ob,es,ep,e,c⟩:=x;exact ⟨z,y,xs,Paired.mapP r fun p q z=>⟨z.1,ht _ _ z.2.1,z.2.2⟩,ob,es,ep,k _ _ (.inl rfl) e,c⟩
 | set S n=>obtain ⟨ob,es,ep,t,e,c⟩:=x;exact ⟨ob,es,ep,t,k _ _ (.inl rfl) e,c⟩
 | ins C dx fs=>
  obtain ⟨d,z,ne,e,mA,⟨od,es,ep,e2,c⟩,r⟩:=x;exact ⟨ho _ d,z,ne,k _ _ (.inl rfl) e,mA,⟨od,es,ep,k _ _ (.inr d) e2,c⟩,r⟩
 | own y=>obtain ⟨ob,e⟩:=x;exact ⟨ob,k _ _ (.inl rfl) e⟩
 | xd fs=>obtain ⟨mA,⟨od,es,ep,e,c⟩,r⟩:=x;exact ⟨mA,⟨od,es,ep,k _ _ (.inl rfl) e,c⟩,r⟩
 | rng lo hi=>obtain ⟨t,u,v,e⟩:=x;exact ⟨t,u,v,k _ _ (.inl rfl) e⟩
 | frz ob u ih=>obtain ⟨e,q⟩:=x;exact ⟨k _ _ (.inl rfl) e,ih q⟩
 | tbl ps=>
  have e:h.get? a=some { cls:=.none,data:=.fields ps }:=x
  show h'.get? a=some { cls:=.none,data:=.fields ps }
  exact k a _ (.inl rfl) e
 | met f y=>
  have e:h.get? a=some (PySem.W.methodObj (.ref f) (.ref y)):=x
  show h'.get? a=some (PySem.W.methodObj (.ref f) (.ref y))
  exact k a _ (.inl rfl) e
 | ext φ=>obtain ⟨p,⟨o,e⟩,st⟩:=x;exact ⟨st _ _ p fun o q=>k _ _ (.inl rfl) q,⟨o,k _ _ (.inl rfl) e⟩,st⟩
theorem HOk.lt (x:HOk P w H h) (e:H a=some o):a < h.objs.size:=(x a o e).lt
theorem HOk.fresh (x:HOk P w H h) (e:h.objs.size<=a):H a=none:=by
 cases q:H a with
 | none=>rfl
 | some u=>exact absurd (Nat.lt_of_lt_of_le (x.lt q) e) (Nat.lt_irrefl _)
theorem HOk.kept (x:HOk P w H h) (k:∀b u,h.get? b=some u->h'.get? b=some u):HOk P w H h':=fun a o e=>
 (x a o e).stay (fun b u _ q=>k b u q) (fun _ q=>q) fun _ _ q=>q
theorem HOk.laid (x:HOk P w H h) (k:∀b u,h.get? b=some u->h'.get? b=some u) (hp:h.objs.size<=a) (new:ObjOk P w (upd H a o) h' a o):HOk P w (upd H a o) h':=fun b u e=>by
 have hn:=x.fresh hp
 by_cases hb:b=a
 .subst hb;rw[zbG] at e;cases e;exact new
 .rw[zaJ hb] at e;exact (x b u e).stay (fun c v _ q=>k c v q) (fun c q=>by rw[zaJ (zaH q hn)];exact q) fun c xs q=>by rw[zaJ (zaH q hn)];exact q
end
def Rd (H:Hp) (a:Addr) (u:HO):Prop:=H a=some u\/∃o,H a=some (.frz o u)
theorem Rd.ok {P:Program} {w:World} {H:Hp} {h:Heap} {a:Addr} {u:HO} (r:Rd H a u) (x:HOk P w H h):ObjOk P w H h a u:=by
 rcases r with r | ⟨o,r⟩
 .exact x a u r
 .obtain ⟨_,q⟩:=x a _ r;exact q
def Mut:Option HO->Prop
 | some (.lst _)=>True
 | some (.dK _)=>True
 | some (.dT _)=>True
 | some (.set _ _)=>True
 | some (.ins _ _ _)=>True
 | some (.ext _)=>True
 | _=>False
section
variable {P:Program} {w:World} {H:Hp} {h h':Heap} {x e:Addr} {o':HO}
theorem HOk.write (ok:HOk P w H h) (mu:Mut (H x)) (he:e=x\/H e=some (.own x)) (k:∀b u,b≠e->h.get? b=some u->h'.get? b=some u) (heo:∃u,h'.get? e=some u)
  (new:ObjOk P w (upd H x o') h' x o'):HOk P w (upd H x o') h':=fun b u q=>by
 have nown:∀c y,H c=some (.own y)->c≠x:=fun c y r z=>by subst z;rw[r] at mu;exact mu
 have ntup:∀c xs,H c=some (.tup xs)->c≠x:=fun c xs r z=>by subst z;rw[r] at mu;exact mu
 by_cases hb:b=x
 .subst hb;rw[zbG] at q;cases q;exact new
 .rw[zaJ hb] at q
  by_cases hbe:b=e
  .have q':H b=some (.own x):=by
    rcases he with z | z
    .exact absurd (hbe.trans z) hb
    .rw[hbe];exact z
   rw[q] at q';cases q';obtain ⟨v,hv⟩:=heo;exact ⟨v,by rw[hbe];exact hv⟩
  .refine (ok b u q).stay (fun c v hc r=>k c v ?_ r) (fun c r=>by rw[zaJ (nown c b r)];exact r) fun c xs r=>by rw[zaJ (ntup c xs r)];exact r
   rcases hc with rfl | hc
   .exact hbe
   .rintro rfl
    rcases he with z | z
    .exact nown c b hc z
    .rw[hc] at z;cases z;exact hb rfl
end
structure Un (fs ex:List Addr) (H H':Hp) (h h':Heap):Prop where
 keep:∀b o,h.get? b=some o->H b=none->b∉fs->b∉ex->h'.get? b=some o
 slot:∀b o,h.get? b=some o->H b=none->b∈fs->b∉ex->∃sl,h'.get? b=some { o with slots:=sl }
 free:∀b o,h.get? b=some o->H b=none->b∉ex->H' b=none
 there:∀b o,h.get? b=some o->b∉ex->∃o',h'.get? b=some o'
 tups:∀b xs,H b=some (.tup xs)->H' b=some (.tup xs)
 frzs:∀b o u,H b=some (.frz o u)->H' b=some (.frz o u)
 tbls:∀b ps,H b=some (.tbl ps)->∃more,H' b=some (.tbl (ps++more))
section
variable {fs fs' ex ex':List Addr} {H H1 H2:Hp} {h h1 h2 h':Heap} {a x e:Addr} {o:HO}
theorem Un.any (u:Un fs ex H H1 h h1) {b:Addr} {ob:Obj} (q:h.get? b=some ob) (n:H b=none) (hx:b∉ex):∃sl,h1.get? b=some { ob with slots:=sl }:=by
 by_cases hb:b∈fs
 .exact u.slot b ob q n hb hx
 .exact ⟨ob.slots,u.keep b ob q n hb hx⟩
theorem Un.trans (a:Un fs ex H H1 h h1) (b:Un fs ex H1 H2 h1 h2):Un fs ex H H2 h h2 where
 keep:=fun c ob q n hc hx=>b.keep c ob (a.keep c ob q n hc hx) (a.free c ob q n hx) hc hx
 slot:=fun c ob q n hc hx=>by
  obtain ⟨sl,e1⟩:=a.slot c ob q n hc hx;obtain ⟨sl',e2⟩:=b.slot c _ e1 (a.free c ob q n hx) hc hx;exact ⟨sl',e2⟩
 free:=fun c ob q n hx=>by
  obtain ⟨o',e1⟩:=a.there c ob q hx;exact b.free c o' e1 (a.free c ob q n hx) hx
 there:=fun c ob q hx=>by
  obtain ⟨o',e1⟩:=a.there c ob q hx;exact b.there c o' e1 hx
 tups:=fun c xs q=>b.tups c xs (a.tups c xs q)
 frzs:=fun c ob xs q=>b.frzs c ob xs (a.frzs c ob xs q)
 tbls:=fun c ps q=>by
  obtain ⟨m1,e1⟩:=a.tbls c ps q;obtain ⟨m2,e2⟩:=b.tbls c _ e1;exact ⟨m1++m2,by rw[e2,Array.append_assoc]⟩
theorem Un.kept (k:∀b u,h.get? b=some u->h'.get? b=some u):Un fs ex H H h h':=
 ⟨fun b ob q _ _ _=>k b ob q,fun b ob q _ _ _=>⟨ob.slots,k b ob q⟩,fun _ _ _ n _=>n,fun b ob q _=>⟨ob,k b ob q⟩,fun _ _ q=>q,fun _ _ _ q=>q,fun _ ps q=>⟨#[],by rw[q];simp⟩⟩
theorem Un.refl:Un fs ex H H h h:=Un.kept fun _ _ q=>q
theorem Un.laid (k:∀b u,h.get? b=some u->h'.get? b=some u) (hp:h.objs.size<=a) (hn:H a=none):Un fs ex H (upd H a o) h h' where
 keep:=fun b u q _ _ _=>k b u q
 slot:=fun b u q _ _ _=>⟨u.slots,k b u q⟩
 free:=fun b u q n _=>by rw[zaJ (Nat.ne_of_lt (Nat.lt_of_lt_of_le (Heap.lt_size q) hp))];exact n
 there:=fun b u q _=>⟨u,k b u q⟩
 tups:=fun b xs q=>by rw[zaJ (zaH q hn)];exact q
 frzs:=fun b u xs q=>by rw[zaJ (zaH q hn)];exact q
 tbls:=fun b ps q=>⟨#[],by rw[zaJ (zaH q hn),q];simp⟩
theorem Un.write (mu:Mut (H x)) (he:e=x\/H e=some (.own x)) (k:∀b u,b≠e->h.get? b=some u->h'.get? b=some u) (heo:∃u,h'.get? e=some u):Un fs ex H (upd H x o) h h':=by
 have hx:∀b,H b=none->b≠x:=fun b n z=>by subst z;rw[n] at mu;exact mu
 have hb:∀b,H b=none->b≠e:=fun b n z=>by
  subst z;rcases he with r | r
  .exact hx b n r
  .rw[n] at r;cases r
 have hm:∀b u,H b=some u->¬Mut (some u)->b≠x:=fun b u q nm z=>by subst z;rw[q] at mu;exact nm mu
 refine ⟨fun b u q n _ _=>k b u (hb b n) q,fun b u q n _ _=>⟨u.slots,k b u (hb b n) q⟩,fun b u q n _=>by rw[zaJ (hx b n)];exact n,fun b u q _=>?_,
  fun b xs q=>by rw[zaJ (hm b _ q fun z=>z)];exact q,fun b u xs q=>by rw[zaJ (hm b _ q fun z=>z)];exact q,fun b ps q=>⟨#[],by rw[zaJ (hm b _ q fun z=>z),q];simp⟩⟩
 by_cases hbe:b=e
 .subst hbe;exact heo
 .exact ⟨u,k b u hbe q⟩
theorem Un.mono (u:Un fs ex H H1 h h1) (hs:∀b∈fs,b∈fs') (hx:∀b∈ex,b∈ex'):Un fs' ex' H H1 h h1:=
 ⟨fun b ob q n hb he=>u.keep b ob q n (fun z=>hb (hs b z)) fun z=>he (hx b z),fun _ _ q n _ he=>u.any q n fun z=>he (hx _ z),fun b ob q n he=>u.free b ob q n fun z=>he (hx b z),fun b ob q he=>u.there b ob q fun z=>he (hx b z),u.tups,u.frzs,u.tbls⟩
end
def trk (h:Heap) (H:Hp):List Addr:=(List.range h.objs.size).filter fun a=>(H a).isSome
def hidT (h:Heap) (H:Hp):Heap:=PySem.W.hideAll h (trk h H)
theorem zma (h:Heap) (H:Hp):(hidT h H).objs.size=h.objs.size:=PySem.W.hideAll_size _ _
theorem zmT {h:Heap} {H:Hp} {b:Addr} {o:Obj} (e:h.get? b=some o) (n:H b=none):(hidT h H).get? b=some o:=
 PySem.W.hideAll_get _ e fun hm=>by
  have q:(H b).isSome=true:=(List.mem_filter.mp hm).2;rw[n] at q;simp at q
theorem znY {h:Heap} {H:Hp} {b:Addr} {o:Obj} (e:(hidT h H).get? b=some o):h.get? b=some o/\H b=none:=by
 have e':h.get? b=some o:=PySem.W.of_hideAll (trk h H) e;refine ⟨e', ?_⟩
 cases q:H b with
 | none=>rfl
 | some x=>
  have hm:b∈trk h H:=List.mem_filter.mpr ⟨List.mem_range.mpr (Heap.lt_size e'),by simp[q]⟩;have z:(hidT h H).get? b=none:=PySem.W.hideAll_none (trk h H) hm;rw[z] at e;cases e
structure Mod (K:PySem.W.Frag) (mg:Str->Option Value) (base:Heap):Prop where
 kin:K.In base
 glob:base.Ns mainGlobals mg
 blt:∃mb,base.Ns builtinsNs mb/\∀x:Str,x≠"__name__"->mb x=bootBuiltins x
 nolimit:base.NoLimit
structure Cx where
 prog:Program
 w:World
 K:PySem.W.Frag
 mg:Str->Option Value
 base:Heap
 A:Around
 N:List Str
 s₀:Shared
 H₀:Hp
 env:Env
 outer:List Env
 stack:List Env
 ex:List Addr
 fn:Str->Bool
 calm:Bool
 pn:List (Addr×Obj)
 xe:Value->Shared->Prop
def frs (l:List Env):List Addr:=l.filterMap (·.frame)
abbrev Cx.fs (X:Cx):List Addr:=frs X.outer
def Vis (sc:Scope) (x:Str):Prop:=sc.names.lookup x=some .local\/sc.names.lookup x=some .cell\/sc.names.lookup x=some .free
def Loc (sc:Scope) (x:Str):Prop:=sc.names.lookup x=some .local\/sc.names.lookup x=some .cell
def Look (env:Env) (h:Heap) (m:Str->Option Value) (x:Str) (u:Value):Prop:=
 (env.kindOf x=some .local/\m x=some u)\/((env.kindOf x=some .cell\/env.kindOf x=some .free)/\∃c,env.cells.lookup x=some c/\h.IsCell c (some u))
structure Cx.Ok (X:Cx):Prop where
 mod:Mod X.K X.mg X.base
 kind:X.env.scope.kind=.function
 glob:X.env.globals=mainGlobals
 blt:X.env.builtins=builtinsNs
 above:X.s₀.heap.objs.size<=X.env.locals
 inj:∀x y c,X.env.cells.lookup x=some c->X.env.cells.lookup y=some c->x=y
 has:∀x,(X.env.kindOf x=some .cell\/X.env.kindOf x=some .free)->∃c,X.env.cells.lookup x=some c
 cab:∀x c,X.fn x=true->X.env.cells.lookup x=some c->X.s₀.heap.objs.size<=c
 hd:X.calm=true->X.A.handled=none
 frames:X.A.frames=some X.stack
 stk:X.stack=X.outer\/(X.stack=X.env::X.outer/\X.env.frame=some X.env.locals)
 exf:∀b∈X.ex,b≠X.env.locals/\∀x c,X.env.cells.lookup x=some c->c≠b
 bs:∀b o,X.base.get? b=some o->X.s₀.heap.get? b=some o/\X.H₀ b=none
 bsz:X.base.objs.size<=X.s₀.heap.objs.size
 noex:∀b o,X.base.get? b=some o->b∉X.ex
 exfs:∀b∈X.ex,b∉X.fs
 funs:X.s₀.heap.FunFrames X.base X.outer
 frf:∀b∈X.fs,X.H₀ b=none
structure Inv (X:Cx) (pins:List (Addr×Obj)) (σ:List (Option V)) (H:Hp) (s:Shared):Prop where
 ok:X.Ok
 os:s.os=X.s₀.os
 bare:AllBare s.gens
 base:Un X.fs X.ex X.H₀ H X.s₀.heap s.heap
 loc:∃m,s.heap.Ns X.env.locals m/\∀(i:Nat) (x:Str) (v:V),X.N[i]? = some x->σ[i]? = some (some v)->Vis X.env.scope x->∃u,RelV v u/\Look X.env s.heap m x u
 cell:∀x c,X.env.cells.lookup x=some c->∃v,s.heap.IsCell c v
 free:H X.env.locals=none
 freeC:∀x c,X.env.cells.lookup x=some c->H c=none
 pin:∀p∈X.pn++pins,s.heap.get? p.1=some p.2/\H p.1=none/\p.1≠X.env.locals/\p.1∉X.fs/\∀v,p.2.data≠.cell v
 hok:HOk X.prog X.w H s.heap
 len:σ.length=X.N.length
section
variable {X:Cx} {pins:List (Addr×Obj)} {σ:List (Option V)} {H H':Hp} {s:Shared} {h':Heap}
theorem Cx.Ok.nofr (ok:X.Ok) {b:Addr} {o:Obj} (e:X.base.get? b=some o):b∉X.fs:=fun hb=>by
 have:=(ok.funs.mem hb).1
 rw[e] at this;cases this
theorem Inv.bs (I:Inv X pins σ H s):∀b o,X.base.get? b=some o->s.heap.get? b=some o/\H b=none:=fun b o e=>
 ⟨I.base.keep b o (I.ok.bs b o e).1 (I.ok.bs b o e).2 (I.ok.nofr e) (I.ok.noex b o e),I.base.free b o (I.ok.bs b o e).1 (I.ok.bs b o e).2 (I.ok.noex b o e)⟩
theorem Inv.bk (I:Inv X pins σ H s):∀b o,X.base.get? b=some o->s.heap.get? b=some o:=fun b o e=>(I.bs b o e).1
theorem Inv.mod (I:Inv X pins σ H s):Mod X.K X.mg X.base:=I.ok.mod
theorem Inv.kIn (I:Inv X pins σ H s):X.K.In s.heap:=I.ok.mod.kin.keeps I.bk
theorem Inv.lt (I:Inv X pins σ H s):X.env.locals < s.heap.objs.size:=let ⟨_,hn,_⟩:=I.loc;hn.lt
theorem Inv.sz (I:Inv X pins σ H s):X.s₀.heap.objs.size<=s.heap.objs.size:=Nat.le_trans I.ok.above (Nat.le_of_lt I.lt)
theorem Inv.nofs (I:Inv X pins σ H s) {a:Addr} (h:s.heap.objs.size<=a):a∉X.fs:=fun hb=>by
 obtain ⟨_,o,ho,_⟩:=I.ok.funs.mem hb;exact absurd (Nat.lt_of_lt_of_le (Heap.lt_size ho) (Nat.le_trans I.sz h)) (Nat.lt_irrefl _)
theorem Inv.cne (I:Inv X pins σ H s):∀x c,X.env.cells.lookup x=some c->c≠X.env.locals:=fun x c e z=>by
 obtain ⟨v,o,ho,hd⟩:=I.cell x c e;obtain ⟨m,⟨o',es,ep,ho',hd',_⟩,_⟩:=I.loc;rw[z,ho'] at ho;cases ho;rw[hd'] at hd;cases hd
theorem Inv.funs (I:Inv X pins σ H s):s.heap.FunFrames X.base X.outer:=by
 have all:∀(l:List Env),(∀b∈frs l,b∈X.fs)->X.s₀.heap.FunFrames X.base l->s.heap.FunFrames X.base l:=by
  intro l
  induction l with
  | nil=>intro _ _;trivial
  | cons env r ih=>
   intro hs hl;obtain ⟨hk,⟨L,o,hf,hn,ho,hd⟩,hr⟩:=hl;have hL:L∈X.fs:=hs L (by unfold frs;rw[List.filterMap_cons,hf];exact List.mem_cons_self);obtain ⟨sl,e⟩:=I.base.slot L o ho (I.ok.frf L hL) hL fun z=>I.ok.exfs L z hL
   exact ⟨hk,⟨L,_,hf,hn,e,hd⟩,ih (fun b hb=>hs b (by unfold frs;rw[List.filterMap_cons,hf];exact List.mem_cons_of_mem _ hb)) hr⟩
 exact all X.outer (fun _ hb=>hb) I.ok.funs
theorem Inv.stack (I:Inv X pins σ H s):s.heap.FunFrames X.base X.stack:=by
 rcases I.ok.stk with e | ⟨e,hf⟩
 .rw[e];exact I.funs
 .rw[e];obtain ⟨m,hn,_⟩:=I.loc;refine .cons (by rw[I.ok.kind];decide) hf hn ?_ I.funs;exact Heap.get?_none_of_le (Nat.le_trans I.ok.bsz I.ok.above)
theorem Inv.stkSub (I:Inv X pins σ H s):∀b∈frs X.stack,b∈X.env.locals::X.fs:=fun b hb=>by
 rcases I.ok.stk with e | ⟨e,hf⟩
 .rw[e] at hb;exact List.mem_cons_of_mem _ hb
 .rw[e] at hb;unfold frs at hb;rw[List.filterMap_cons,hf] at hb;exact hb
theorem Inv.stkFree (I:Inv X pins σ H s):∀b∈frs X.stack,H b=none:=fun b hb=>by
 rcases List.mem_cons.mp (I.stkSub b hb) with e | hb
 .rw[e];exact I.free
 .obtain ⟨_,o,ho,_⟩:=I.ok.funs.mem hb;exact I.base.free b o ho (I.ok.frf b hb) fun z=>I.ok.exfs b z hb
theorem Inv.step {g':Array GenState} {t':Nat} {d':Drawn} {ch:List Addr} (I:Inv X pins σ H s)
  (hch:∀b∈ch,(b∈X.ex\/X.s₀.heap.objs.size<=b)/\b≠X.env.locals/\(∀x c,X.env.cells.lookup x=some c->c≠b)/\∀p∈X.pn++pins,p.1≠b)
  (keep:∀b o,b≠X.env.locals->b∉X.fs->b∉ch->s.heap.get? b=some o->H b=none->h'.get? b=some o)
  (slot:∀b o,b≠X.env.locals->b∈X.fs->b∉ch->s.heap.get? b=some o->H b=none->∃sl,h'.get? b=some { o with slots:=sl }) (free:∀b o,b∉ch->s.heap.get? b=some o->H b=none->H' b=none)
  (there:∀b o,b∉ch->s.heap.get? b=some o->∃o',h'.get? b=some o')
  (tups:∀b xs,H b=some (.tup xs)->H' b=some (.tup xs)) (frzs:∀b o u,H b=some (.frz o u)->H' b=some (.frz o u)) (tbls:∀b ps,H b=some (.tbl ps)->∃more,H' b=some (.tbl (ps++more)))
  (ns:∀m,s.heap.Ns X.env.locals m->h'.Ns X.env.locals m) (hok:HOk X.prog X.w H' h') (hg:AllBare g') :
  Inv X pins σ H' { s with heap:=h',gens:=g',drawn:=d',toks:=t' }:=by
 have neL:∀b o,X.s₀.heap.get? b=some o->b≠X.env.locals:=fun b o e=>Nat.ne_of_lt (Nat.lt_of_lt_of_le (Heap.lt_size e) I.ok.above)
 have neC:∀b o,X.s₀.heap.get? b=some o->b∉X.ex->b∉ch:=fun b o e hx hb=>by
  rcases (hch b hb).1 with z | z
  .exact hx z
  .exact absurd (Nat.lt_of_lt_of_le (Heap.lt_size e) z) (Nat.lt_irrefl _)
 have cellK:∀x c,X.env.cells.lookup x=some c->∀v,s.heap.IsCell c v->h'.IsCell c v:=fun x c e v hx__=>by
  obtain ⟨o,ho,hd⟩:=hx__;have nch:c∉ch:=fun z=>(hch c z).2.2.1 x c e rfl
  by_cases hc:c∈X.fs
  .obtain ⟨sl,q⟩:=slot c o (I.cne x c e) hc nch ho (I.freeC x c e);exact ⟨_,q,hd⟩
  .exact ⟨o,keep c o (I.cne x c e) hc nch ho (I.freeC x c e),hd⟩
 refine ⟨I.ok,I.os,hg,⟨fun b o e n hb hx=>?_,fun b o e n hb hx=>?_,fun b o e n hx=>?_,fun b o e hx=>?_,fun b xs e=>tups b xs (I.base.tups b xs e),fun b o xs e=>frzs b o xs (I.base.frzs b o xs e),fun b ps e=>?_⟩, ?_,fun x c e=>?_, ?_,fun x c e=>?_,fun p hp=>?_,hok,I.len⟩
 .exact keep b o (neL b o e) hb (neC b o e hx) (I.base.keep b o e n hb hx) (I.base.free b o e n hx)
 .obtain ⟨sl,e1⟩:=I.base.slot b o e n hb hx;obtain ⟨sl',e2⟩:=slot b _ (neL b o e) hb (neC b o e hx) e1 (I.base.free b o e n hx);exact ⟨sl',e2⟩
 .obtain ⟨o',e1⟩:=I.base.there b o e hx;exact free b o' (neC b o e hx) e1 (I.base.free b o e n hx)
 .obtain ⟨o',e1⟩:=I.base.there b o e hx;exact there b o' (neC b o e hx) e1
 .obtain ⟨m1,e1⟩:=I.base.tbls b ps e;obtain ⟨m2,e2⟩:=tbls b _ e1;exact ⟨m1++m2,by rw[e2,Array.append_assoc]⟩
 .obtain ⟨m,hn,hl⟩:=I.loc;refine ⟨m,ns m hn,fun i x v e1 e2 e3=>?_⟩;obtain ⟨u,r,l⟩:=hl i x v e1 e2 e3;refine ⟨u,r, ?_⟩;rcases l with l | ⟨k,c,e,z⟩
  .exact .inl l
  .exact .inr ⟨k,c,e,cellK x c e _ z⟩
 .obtain ⟨v,z⟩:=I.cell x c e;exact ⟨v,cellK x c e v z⟩
 .obtain ⟨m,⟨o,_,_,ho,_⟩,_⟩:=I.loc;exact free _ o (fun z=>(hch _ z).2.1 rfl) ho I.free
 .obtain ⟨v,o,ho,hd⟩:=I.cell x c e;exact free c o (fun z=>(hch c z).2.2.1 x c e rfl) ho (I.freeC x c e)
 .obtain ⟨e,n,ne,nf,d⟩:=I.pin p hp;have nch:p.1∉ch:=fun z=>(hch p.1 z).2.2.2 p hp rfl
  exact ⟨keep p.1 p.2 ne nf nch e n,free p.1 p.2 nch e n,ne,nf,d⟩
theorem Inv.un {t':Nat} (I:Inv X pins σ H s) (u:Un X.fs [] H H' s.heap h') (hok:HOk X.prog X.w H' h'):Inv X pins σ H' { s with heap:=h',toks:=t' }:=by
 obtain ⟨m,⟨o,es,ep,ho,r⟩,_⟩:=id I.loc;obtain ⟨sl,hL⟩:=u.any ho I.free (by simp);exact I.step (g':=s.gens) (d':=s.drawn) (ch:=[]) (fun _ z=>nomatch z) (fun b o _ hb _ e n=>u.keep b o e n hb (by simp)) (fun b o _ hb _ e n=>u.slot b o e n hb (by simp)) (fun b o _ e n=>u.free b o e n (by simp)) (fun b o _ e=>u.there b o e (by simp)) u.tups u.frzs u.tbls (fun m' hm=>by
  obtain ⟨o',es',ep',ho',r'⟩:=hm;rw[ho] at ho';cases ho';exact ⟨_,es',ep',hL,r'⟩) hok I.bare
theorem Inv.call {g':Array GenState} {t':Nat} {d':Drawn} {ch:List Addr} (I:Inv X pins σ H s) (u:Un (frs X.stack) ch H H' s.heap h') (hok:HOk X.prog X.w H' h') (hg:AllBare g')
  (hch:∀b∈ch,(b∈X.ex\/X.s₀.heap.objs.size<=b)/\b≠X.env.locals/\(∀x c,X.env.cells.lookup x=some c->c≠b)/\∀p∈X.pn++pins,p.1≠b) :
  Inv X pins σ H' { s with heap:=h',gens:=g',drawn:=d',toks:=t' }:=by
 obtain ⟨m,⟨o,es,ep,ho,r⟩,_⟩:=id I.loc;obtain ⟨sl,hL⟩:=u.any ho I.free fun z=>(hch _ z).2.1 rfl
 exact I.step (ch:=ch) hch (fun b o hL hb hc e n=>u.keep b o e n (fun z=>(List.mem_cons.mp (I.stkSub b z)).elim hL hb) hc) (fun b o _ _ hc e n=>u.any e n hc) (fun b o hc e n=>u.free b o e n hc) (fun b o hc e=>u.there b o e hc) u.tups u.frzs u.tbls (fun m' hm=>by
  obtain ⟨o',es',ep',ho',r'⟩:=hm;rw[ho] at ho';cases ho';exact ⟨_,es',ep',hL,r'⟩) hok hg
theorem Inv.turned {t':Nat} {it:Addr} (I:Inv X pins σ H s) (k:∀b o,b≠it->s.heap.get? b=some o->h'.get? b=some o) (hn:H it=none) (hL:it≠X.env.locals)
  (h1:it∈X.ex\/X.s₀.heap.objs.size<=it) (h2:∀x c,X.env.cells.lookup x=some c->c≠it) (h3:∀p∈X.pn++pins,p.1≠it):Inv X pins σ H { s with heap:=h',toks:=t' }:=by
 have nit:∀b u,H b=some u->b≠it:=fun b u e z=>by rw[z,hn] at e;cases e
 refine I.step (g':=s.gens) (d':=s.drawn) (ch:=[it]) (fun b hb=>?_) (fun b o _ _ hc e _=>k b o (fun z=>hc (by simp[z])) e) (fun b o _ _ hc e _=>⟨o.slots,k b o (fun z=>hc (by simp[z])) e⟩) (fun _ _ _ _ n=>n)
  (fun b o hc e=>⟨o,k b o (fun z=>hc (by simp[z])) e⟩) (fun _ _ e=>e) (fun _ _ _ e=>e) (fun b ps e=>⟨#[],by rw[e];simp⟩) (fun m hm=>?_) (fun b u e=>?_) I.bare
 .have e:b=it:=by simpa using hb
  subst e;exact ⟨h1,hL,h2,h3⟩
 .obtain ⟨o,es,ep,ho,r⟩:=hm;exact ⟨o,es,ep,k _ o (Ne.symm hL) ho,r⟩
 .refine (I.hok b u e).stay (fun c v hc q=>k c v ?_ q) (fun _ q=>q) fun _ _ q=>q
  rcases hc with z | z
  .rw[z];exact nit b u e
  .exact nit c _ z
theorem Inv.tok (I:Inv X pins σ H s) (t:Nat):Inv X pins σ H { s with toks:=t }:=I.un (h':=s.heap) (t':=t) Un.refl I.hok
theorem Inv.kept {t':Nat} (I:Inv X pins σ H s) (k:∀b u,s.heap.get? b=some u->h'.get? b=some u):Inv X pins σ H { s with heap:=h',toks:=t' }:=I.un (Un.kept k) (I.hok.kept k)
theorem Inv.laid {a:Addr} {o:HO} {t':Nat} (I:Inv X pins σ H s) (k:∀b u,s.heap.get? b=some u->h'.get? b=some u) (hp:s.heap.objs.size<=a) (new:ObjOk X.prog X.w (upd H a o) h' a o) :
  Inv X pins σ (upd H a o) { s with heap:=h',toks:=t' }:=I.un (Un.laid k hp (I.hok.fresh hp)) (I.hok.laid k hp new)
theorem Inv.write {x e:Addr} {o:HO} {t':Nat} (I:Inv X pins σ H s) (mu:Mut (H x)) (he:e=x\/H e=some (.own x)) (k:∀b u,b≠e->s.heap.get? b=some u->h'.get? b=some u) (heo:∃u,h'.get? e=some u)
  (new:ObjOk X.prog X.w (upd H x o) h' x o):Inv X pins σ (upd H x o) { s with heap:=h',toks:=t' }:=I.un (Un.write mu he k heo) (I.hok.write mu he k heo new)
theorem Inv.weak {σ':List (Option V)} (I:Inv X pins σ H s) (hl:σ'.length=σ.length) (w:∀(i:Nat) v,σ'[i]? = some (some v)->σ[i]? = some (some v)):Inv X pins σ' H s:=
 ⟨I.ok,I.os,I.bare,I.base,let ⟨m,hn,hl'⟩:=I.loc;⟨m,hn,fun i x v e1 e2 e3=>hl' i x v e1 (w i v e2) e3⟩,I.cell,I.free,I.freeC,I.pin,I.hok,hl.trans I.len⟩
theorem Inv.pins_of {pins':List (Addr×Obj)} (I:Inv X pins σ H s) (h:∀p∈pins',s.heap.get? p.1=some p.2/\H p.1=none/\p.1≠X.env.locals/\p.1∉X.fs/\∀v,p.2.data≠.cell v):Inv X pins' σ H s:=
 ⟨I.ok,I.os,I.bare,I.base,I.loc,I.cell,I.free,I.freeC,fun p hp=>(List.mem_append.mp hp).elim (fun z=>I.pin p (List.mem_append_left _ z)) (h p),I.hok,I.len⟩
theorem zjG {N:List Str} (hN:N.Nodup) {i j:Nat} {x:Str} (a:N[i]? = some x) (b:N[j]? = some x):i=j:=by
 obtain ⟨h1,e1⟩:=List.getElem?_eq_some_iff.mp a;obtain ⟨h2,e2⟩:=List.getElem?_eq_some_iff.mp b;exact (List.getElem_inj hN).mp (e1.trans e2.symm)
theorem zhR {M:Model} {A:Around} {E:Value->Shared->Prop} {i:Nat} {x:Str} {v:V} {u:Value} {Q:Unit->Shared->Prop} (I:Inv X pins σ H s) (hN:X.N.Nodup) (hi:X.N[i]? = some x) (hx:Loc X.env.scope x) (r:RelV v u)
  (h:∀s',Inv X pins (σ.set i (some v)) H s'->(∃a,Heap.SameBut a s.heap s'.heap/\(a=X.env.locals\/X.env.cells.lookup x=some a))->Q () s') (hf:X.fn x=true\/X.env.scope.names.lookup x=some .local:=by first | exact .inl rfl | exact .inr rfl | assumption):wpAny M A (storeName X.env x u) Q E s:=by
 obtain ⟨m,hn,hl⟩:=id I.loc;have hcls:(X.env.scope.kind==.class || (X.env.scope.kind==.module&&X.env.locals != X.env.globals))=false:=by rw[I.ok.kind];rfl
 have hiσ:i < σ.length:=by rw[I.len];exact (List.getElem?_eq_some_iff.mp hi).1
 have cne:=I.cne;have tracked:∀{a:Addr} {h':Heap},(∃o,s.heap.get? a=some o/\H a=none)->Heap.SameBut a s.heap h'->HOk X.prog X.w H h':=fun {a h'} ha hs b ob e=>by
  obtain ⟨_,_,hfree⟩:=ha;refine (I.hok b ob e).stay (fun c w' hc q=>(hs.2 c ?_).trans q) (fun _ q=>q) fun _ _ q=>q
  rintro rfl
  rcases hc with rfl | hc
  .rw[hfree] at e;cases e
  .rw[hfree] at hc;cases hc
 rcases hx with hk | hk
 .refine wpAny_storeName_local hk hn (fun h' hn' hs=>?_) hcls;obtain ⟨oL,_,_,hoL,_⟩:=id hn;refine h _ ⟨I.ok,I.os,I.bare,⟨fun b o e n hb hx=>?_,fun b o e n hb hx=>?_,I.base.free,fun b o e hx=>?_,I.base.tups,I.base.frzs,I.base.tbls⟩,⟨_,hn',fun j y v' e1 e2 e3=>?_⟩,fun y c e=>?_,I.free,I.freeC,fun p hp=>?_,tracked ⟨oL,hoL,I.free⟩ hs,by simpa using I.len⟩ ⟨_,hs,.inl rfl⟩
  .exact (hs.2 b (Nat.ne_of_lt (Nat.lt_of_lt_of_le (Heap.lt_size e) I.ok.above))).trans (I.base.keep b o e n hb hx)
  .obtain ⟨sl,e1⟩:=I.base.slot b o e n hb hx;exact ⟨sl,(hs.2 b (Nat.ne_of_lt (Nat.lt_of_lt_of_le (Heap.lt_size e) I.ok.above))).trans e1⟩
  .obtain ⟨o',e1⟩:=I.base.there b o e hx;exact ⟨o',(hs.2 b (Nat.ne_of_lt (Nat.lt_of_lt_of_le (Heap.lt_size e) I.ok.above))).trans e1⟩
  .by_cases hj:j=i
   .subst hj;rw[hi] at e1;cases e1;rw[List.getElem?_set_self hiσ] at e2;cases e2;exact ⟨u,r,.inl ⟨hk,by simp⟩⟩
   .rw[List.getElem?_set_ne (Ne.symm hj)] at e2;obtain ⟨u',r',q⟩:=hl j y v' e1 e2 e3;refine ⟨u',r', ?_⟩;rcases q with ⟨k,e⟩ | ⟨k,c,e,z⟩
    .refine .inl ⟨k, ?_⟩
     have:y≠x:=fun e=>hj (zjG hN e1 (e ▸ hi))
     simp[this,e]
    .exact .inr ⟨k,c,e,z.sameBut hs (cne y c e)⟩
  .obtain ⟨w',z⟩:=I.cell y c e;exact ⟨w',z.sameBut hs (cne y c e)⟩
  .obtain ⟨e,n,ne,nf,d⟩:=I.pin p hp;exact ⟨(hs.2 p.1 ne).trans e,n,ne,nf,d⟩
 .have hfn:X.fn x=true:=by
   rcases hf with z | z
   .exact z
   .rw[z] at hk;cases hk
  obtain ⟨c,hc⟩:=I.ok.has x (.inl hk);obtain ⟨w',z⟩:=I.cell x c hc;refine wpAny_storeName_cell I.ok.kind hk hc z (fun h' hc' hs=>?_);obtain ⟨oc,hoc,hocd⟩:=id z;refine h { s with heap:=h' } ⟨I.ok,I.os,I.bare,⟨fun b o e n hb hx=>?_,fun b o e n hb hx=>?_,I.base.free,fun b o e hx=>?_,I.base.tups,I.base.frzs,I.base.tbls⟩,⟨m,hn.sameBut hs (Ne.symm (cne x c hc)),fun j y v' e1 e2 e3=>?_⟩,fun y c' e=>?_,I.free,I.freeC,fun p hp=>?_,tracked ⟨oc,hoc,I.freeC x c hc⟩ hs,by simpa using I.len⟩ ⟨c,hs,.inr hc⟩
  .exact (hs.2 b (Nat.ne_of_lt (Nat.lt_of_lt_of_le (Heap.lt_size e) (I.ok.cab x c hfn hc)))).trans (I.base.keep b o e n hb hx)
  .obtain ⟨sl,e1⟩:=I.base.slot b o e n hb hx;exact ⟨sl,(hs.2 b (Nat.ne_of_lt (Nat.lt_of_lt_of_le (Heap.lt_size e) (I.ok.cab x c hfn hc)))).trans e1⟩
  .obtain ⟨o',e1⟩:=I.base.there b o e hx;exact ⟨o',(hs.2 b (Nat.ne_of_lt (Nat.lt_of_lt_of_le (Heap.lt_size e) (I.ok.cab x c hfn hc)))).trans e1⟩
  .by_cases hj:j=i
   .subst hj;rw[hi] at e1;cases e1;rw[List.getElem?_set_self hiσ] at e2;cases e2;exact ⟨u,r,.inr ⟨.inl hk,c,hc,hc'⟩⟩
   .rw[List.getElem?_set_ne (Ne.symm hj)] at e2;obtain ⟨u',r',q⟩:=hl j y v' e1 e2 e3;refine ⟨u',r', ?_⟩;rcases q with q | ⟨k,c',e,z'⟩
    .exact .inl q
    .refine .inr ⟨k,c',e,z'.sameBut hs ?_⟩
     rintro rfl
     exact hj (zjG hN e1 (I.ok.inj _ _ _ e hc ▸ hi))
  .by_cases hcc:c'=c
   .subst hcc;exact ⟨_,hc'⟩
   .obtain ⟨w2,z2⟩:=I.cell y c' e;exact ⟨w2,z2.sameBut hs hcc⟩
  .obtain ⟨e,n,ne,nf,d⟩:=I.pin p hp;refine ⟨(hs.2 p.1 ?_).trans e,n,ne,nf,d⟩;intro q;rw[q,hoc] at e;have q':oc=p.2:=Option.some.inj e;exact d w' (by rw[<-q'];exact hocd)
theorem zht {M:Model} {A:Around} {E:Value->Shared->Prop} {i:Nat} {x:Str} {v:V} {u:Value} {Q:Unit->Shared->Prop} (I:Inv X pins σ H s) (hN:X.N.Nodup) (hi:X.N[i]? = some x) (hx:Loc X.env.scope x) (r:RelV v u)
  (h:∀s',Inv X pins (σ.set i (some v)) H s'->Q () s') (hf:X.fn x=true\/X.env.scope.names.lookup x=some .local:=by first | exact .inl rfl | exact .inr rfl | assumption):wpAny M A (storeName X.env x u) Q E s:=
 zhR I hN hi hx r (fun s' I' _=>h s' I') hf
theorem Inv.call' {s':Shared} {ch:List Addr} (I:Inv X pins σ H s) (ho:s'.os=s.os) (u:Un (frs X.stack) ch H H' s.heap s'.heap) (hok:HOk X.prog X.w H' s'.heap) (hg:AllBare s'.gens)
  (hch:∀b∈ch,(b∈X.ex\/X.s₀.heap.objs.size<=b)/\b≠X.env.locals/\(∀x c,X.env.cells.lookup x=some c->c≠b)/\∀p∈X.pn++pins,p.1≠b):Inv X pins σ H' s':=by
 obtain ⟨h',g',d',t',o'⟩:=s';have e:o'=s.os:=ho;subst e;exact I.call (g':=g') (t':=t') (d':=d') u hok hg hch
end
abbrev XK:=Value->Option Addr->Hp->Prop
abbrev St:=List (Option V)
abbrev VK:=V->Hp->Prop
abbrev TE:=St->Hp->VK->Prop
abbrev TT:=St->Hp->(Bool->Hp->Prop)->Prop
abbrev TA:=St->Hp->(List V->Hp->Prop)->Prop
structure Ends where
 nx:St->Hp->Prop
 rt:VK
 bk:St->Hp->Prop:=fun _ _=>False
 ct:St->Hp->Prop:=fun _ _=>False
abbrev TS:=Ends->St->Hp->Prop
def EP (X:Cx) (pins:List (Addr×Obj)) (σ:St) (Q:VK) (u:Value) (s':Shared):Prop:=∃v H',Inv X pins σ H' s'/\RelV v u/\Q v H'
def TP (X:Cx) (pins:List (Addr×Obj)) (σ:St) (Q:Bool->Hp->Prop) (b:Bool) (s':Shared):Prop:=∃H',Inv X pins σ H' s'/\Q b H'
def AP (X:Cx) (pins:List (Addr×Obj)) (σ:St) (Q:List V->Hp->Prop) (us:List Value) (s':Shared):Prop:=∃vs H',Inv X pins σ H' s'/\Vals vs us/\Q vs H'
def SP (X:Cx) (pins:List (Addr×Obj)) (D:Ends) (f:Flow) (s':Shared):Prop:=
 match f with
 | .next=>∃σ' H',Inv X pins σ' H' s'/\D.nx σ' H'
 | .brk=>∃σ' H',Inv X pins σ' H' s'/\D.bk σ' H'
 | .cont=>∃σ' H',Inv X pins σ' H' s'/\D.ct σ' H'
 | .ret u=>∃v σ' H',Inv X pins σ' H' s'/\RelV v u/\D.rt v H'
def PE (X:Cx) (e:Expr) (t:TE):Prop:=
 ∀(pins:List (Addr×Obj)) (s:Shared) (σ:St) (H:Hp) (Q:VK),Inv X pins σ H s->t σ H Q->wpAny (model X.prog X.w) X.A (eval e X.env) (EP X pins σ Q) X.xe s
def PT (X:Cx) (e:Expr) (t:TT):Prop:=
 ∀(pins:List (Addr×Obj)) (s:Shared) (σ:St) (H:Hp) (Q:Bool->Hp->Prop),Inv X pins σ H s->t σ H Q->wpAny (model X.prog X.w) X.A (isTrue e X.env (eval e X.env)) (TP X pins σ Q) X.xe s
def PW (X:Cx) (e:Expr) (t:TT):Prop:=
 ∀(whole:Sem Value) (pins:List (Addr×Obj)) (s:Shared) (σ:St) (H:Hp) (Q:Bool->Hp->Prop),Inv X pins σ H s->t σ H Q->wpAny (model X.prog X.w) X.A (isTrue e X.env whole) (TP X pins σ Q) X.xe s
theorem PW.pt {X:Cx} {e:Expr} {t:TT} (h:PW X e t):PT X e t:=h _
def PA (X:Cx) (es:List Expr) (t:TA):Prop:=
 ∀(pos:Pos) (pins:List (Addr×Obj)) (s:Shared) (σ:St) (H:Hp) (Q:List V->Hp->Prop),Inv X pins σ H s->t σ H Q->wpAny (model X.prog X.w) X.A (spliced (backTo pos (starEach es X.env))) (AP X pins σ Q) X.xe s
def PS (X:Cx) (st:Stmt) (t:TS):Prop:=
 ∀(pins:List (Addr×Obj)) (s:Shared) (σ:St) (H:Hp) (D:Ends),Inv X pins σ H s->t D σ H->wpAny (model X.prog X.w) X.A (exec st X.env) (SP X pins D) X.xe s
def PSs (X:Cx) (st:List Stmt) (t:TS):Prop:=
 ∀(pins:List (Addr×Obj)) (s:Shared) (σ:St) (H:Hp) (D:Ends),Inv X pins σ H s->t D σ H->wpAny (model X.prog X.w) X.A (execs st X.env) (SP X pins D) X.xe s
theorem thn {α:Type} {t:Sem α} {Q Q':α->Shared->Prop} {M:Model} {A:Around} {E:Value->Shared->Prop} {s:Shared} (h:wpAny M A t Q E s) (hQ:∀a s,Q a s->Q' a s):wpAny M A t Q' E s:=wpAny_mono h hQ fun _ _ x=>x
section
variable {X:Cx}
def tVar (i:Nat):TE:=fun σ H Q=>∃v,σ[i]? = some (some v)/\Q v H
def tC (v:V):TE:=fun _ H Q=>Q v H
theorem zqP {i:Nat} {x:Str} {pos:Pos} (hN:X.N[i]? = some x) (hv:Vis X.env.scope x) (hd:(x==("__debug__":Str))=false:=by decide) (hcd:(x==("__classdict__":Str))=false:=by decide):PE X (.Name x pos) (tVar i):=by
 intro pins s σ H Q I h;obtain ⟨v,e,h⟩:=h;obtain ⟨m,hn,hl⟩:=I.loc;obtain ⟨u,r,l⟩:=hl i x v hN e hv;have fin:EP X pins σ Q u s:=⟨v,H,I,r,h⟩;rcases l with ⟨hk,hm⟩ | ⟨hk,c,hc,hcell⟩
 .exact wpAny_Name (wpAny_loadName_local I.ok.kind hk hn hm fin) hd
 .rcases hk with hk | hk
  .exact wpAny_Name (wpAny_loadName_cell I.ok.kind hk hc hcell fin) hd
  .exact wpAny_Name (wpAny_loadName_free I.ok.kind hk hc hcell fin hcd) hd
theorem znI {i j pos}:PE X (.Constant (.int i) j pos) (tC (.int i)):=fun _ _ _ H _ I h=>wpAny_Constant_int ⟨.int i,H,I.tok _,⟨_,rfl⟩,h⟩
theorem ztc {b j pos}:PE X (.Constant (.bool b) j pos) (tC (.bl b)):=fun _ _ _ H _ I h=>Constant_bool ⟨.bl b,H,I,rfl,h⟩
theorem zcB {j pos}:PE X (.Constant .none j pos) (tC .non):=fun _ _ _ H _ I h=>Constant_none ⟨.non,H,I,rfl,h⟩
theorem zda {x j pos}:PE X (.Constant (.str x) j pos) (tC (.str x)):=fun _ _ _ H _ I h=>Calls.Constant_str ⟨.str x,H,I.tok _,⟨_,rfl⟩,h⟩
def Gl (X:Cx) (x:Str):Prop:=X.env.kindOf x=some .globalImplicit
theorem zlU {E:Value->Shared->Prop} {pins:List (Addr×Obj)} {s:Shared} {σ:St} {H:Hp} {x:Str} {u:Value} {pos:Pos} {Q:Value->Shared->Prop} (I:Inv X pins σ H s) (hg:Gl X x) (hm:X.mg x=some u) (h:Q u s)
  (hd:(x==("__debug__":Str))=false:=by decide):wpAny (model X.prog X.w) X.A (eval (.Name x pos) X.env) Q E s:=
 Calls.Name_function_global I.ok.kind hg (Calls.loadGlobal_global (by rw[I.ok.glob];exact I.mod.glob.keeps I.bk) hm h) hd
theorem zhX {E:Value->Shared->Prop} {pins:List (Addr×Obj)} {s:Shared} {σ:St} {H:Hp} {x:Str} {u:Value} {pos:Pos} {Q:Value->Shared->Prop} (I:Inv X pins σ H s) (hg:Gl X x) (hm:X.mg x=none) (hv:bootBuiltins x=some u) (h:Q u s)
  (hn:x≠"__name__":=by decide) (hd:(x==("__debug__":Str))=false:=by decide):wpAny (model X.prog X.w) X.A (eval (.Name x pos) X.env) Q E s:=by
 obtain ⟨mb,h1,h2⟩:=I.mod.blt;exact Calls.Name_function_global I.ok.kind hg (Calls.loadGlobal_builtin (by rw[I.ok.glob];exact I.mod.glob.keeps I.bk) hm (by rw[I.ok.blt];exact h1.keeps I.bk) ((h2 x hn).trans hv) h) hd
theorem zn8 {x:Str} {v:V} {u:Value} {pos:Pos} (hg:Gl X x) (hm:X.mg x=some u) (r:RelV v u) (hd:(x==("__debug__":Str))=false:=by decide):PE X (.Name x pos) (tC v):=
 fun _ _ _ H _ I h=>zlU I hg hm ⟨v,H,I,r,h⟩ hd
variable {a b:Expr} {ta tb:TE} {pos:Pos}
variable {tA tB':TT} {rest:List Expr}
def tAnd (t u:TT):TT:=fun σ H Q=>t σ H fun c H1=>if c=true then u σ H1 Q else Q false H1
def tOr (t u:TT):TT:=fun σ H Q=>t σ H fun c H1=>if c=true then Q true H1 else u σ H1 Q
def tNot (t:TT):TT:=fun σ H Q=>t σ H fun c H1=>Q (!c) H1
theorem zoj (ha:PT X a tA):PW X (.BoolOp .And [a] pos) tA:=by
 intro wh pins s σ H Q I h;refine isTrue_and (thn (ha pins s σ H Q I h) fun c s1 e=>?_)
 cases c with
 | true=>exact isTrue_and_nil e
 | false=>exact e
theorem zqL (ha:PT X a tA):PW X (.BoolOp .Or [a] pos) tA:=by
 intro wh pins s σ H Q I h;refine isTrue_or (thn (ha pins s σ H Q I h) fun c s1 e=>?_)
 cases c with
 | false=>exact isTrue_or_nil e
 | true=>exact e
theorem zrs (ha:PT X a tA) (hb:PW X (.BoolOp .And (b::rest) pos) tB'):PW X (.BoolOp .And (a::b::rest) pos) (tAnd tA tB'):=by
 intro wh pins s σ H Q I h;refine isTrue_and (thn (ha pins s σ H _ I h) fun c s1 hx__=>?_);obtain ⟨H1,I1,q1⟩:=hx__
 cases c with
 | true=>exact hb wh pins s1 σ H1 Q I1 q1
 | false=>exact ⟨H1,I1,q1⟩
theorem ztj (ha:PT X a tA) (hb:PW X (.BoolOp .Or (b::rest) pos) tB'):PW X (.BoolOp .Or (a::b::rest) pos) (tOr tA tB'):=by
 intro wh pins s σ H Q I h;refine isTrue_or (thn (ha pins s σ H _ I h) fun c s1 hx__=>?_);obtain ⟨H1,I1,q1⟩:=hx__
 cases c with
 | true=>exact ⟨H1,I1,q1⟩
 | false=>exact hb wh pins s1 σ H1 Q I1 q1
theorem zrF (ha:PT X a tA):PT X (.UnaryOp .Not a pos) (tNot tA):=by
 intro pins s σ H Q I h;exact isTrue_not (ha pins s σ H (fun c H1=>Q (!c) H1) I h)
def ztm (ta tb:TE):TE:=fun σ H Q=>ta σ H fun x H1=>∃c,x=.bl c/\if c=true then tb σ H1 Q else Q (.bl false) H1
theorem zqx {op} {t:TE} (h:PE X a t):PE X (.BoolOp op [a] pos) t:=fun pins s σ H Q I hw=>BoolOp_one (h pins s σ H Q I hw)
theorem zqv (ha:PE X a ta) (hb:PE X (.BoolOp .And (b::rest) pos) tb):PE X (.BoolOp .And (a::b::rest) pos) (ztm ta tb):=by
 intro pins s σ H Q I h;refine BoolOp_and (thn (ha pins s σ H _ I h) fun v s1 hx__=>?_);obtain ⟨x,H1,I1,r1,q1⟩:=hx__;obtain ⟨c,rfl,q1⟩:=q1;cases r1;refine wpAny_truthy_bool ?_
 cases c with
 | true=>exact hb pins s1 σ H1 Q I1 q1
 | false=>exact ⟨.bl false,H1,I1,rfl,q1⟩
def tIf (t:TT) (ta tb:TE):TE:=fun σ H Q=>t σ H fun c H1=>if c=true then ta σ H1 Q else tb σ H1 Q
theorem zng {c:Expr} (hc:PT X c tA) (ha:PE X a ta) (hb:PE X b tb):PE X (.IfExp c a b pos) (tIf tA ta tb):=by
 intro pins s σ H Q I h;refine wpAny_IfExp (thn (hc pins s σ H _ I h) fun d s1 hx__=>?_);obtain ⟨H1,I1,q1⟩:=hx__
 cases d with
 | true=>exact ha pins s1 σ H1 Q I1 q1
 | false=>exact hb pins s1 σ H1 Q I1 q1
end
def SqL (K:PySem.W.Frag) (H:Hp) (a:Addr) (xs:List V):Prop:=
 Rd H a (.lst xs)\/
  ∃(o:Obj) (its:Array Value) (n:Nat),K.lookup a=some o/\o.cls=.type "list"/\o.dict=none/\o.data=.seq its n/\its.size<=sizeLine/\Vals xs its.toList
def SqT (K:PySem.W.Frag) (H:Hp) (a:Addr) (xs:List V):Prop:=
 Rd H a (.tup xs)\/
  ∃(o:Obj) (its:Array Value) (n:Nat),K.lookup a=some o/\o.cls=.type "tuple"/\o.data=.seq its n/\its.size<=sizeLine/\Vals xs its.toList
def absV:Value->Option V
 | .none=>some .non
 | .bool b=>some (.bl b)
 | .int i _=>some (.int i)
 | .str x _=>some (.str x)
 | .bytes b _=>some (.byt b)
 | .float b _=>some (.flt b)
 | .ref a=>some (.ref a)
 | .type n=>some (.ty n)
 | _=>none
theorem RelV.abs {x:V} {u:Value} (r:RelV x u):absV u=some x:=by
 cases x with
 | non=>cases r;rfl
 | bl _=>cases r;rfl
 | int _=>obtain ⟨t,rfl⟩:=r;rfl
 | str _=>obtain ⟨t,rfl⟩:=r;rfl
 | byt _=>obtain ⟨t,rfl⟩:=r;rfl
 | flt _=>obtain ⟨t,rfl⟩:=r;rfl
 | ref _=>cases r;rfl
 | ty _=>cases r;rfl
theorem RelV.inj {x y:V} {u:Value} (r:RelV x u) (q:RelV y u):x=y:=Option.some.inj (r.abs.symm.trans q.abs)
theorem Vals.inj {xs ys:List V} {us:List Value} (h:Vals xs us):Vals ys us->xs=ys:=by
 induction h generalizing ys with
 | nil=>intro g;cases g;rfl
 | cons r t ih=>
  intro g
  cases g with
  | cons r' t'=>rw[r.inj r',ih t']
section
variable {X:Cx} {pins:List (Addr×Obj)} {σ:St} {H:Hp} {s:Shared} {a:Addr} {xs ys:List V}
theorem SqL.of {K:PySem.W.Frag} (h:H a=some (.lst xs)):SqL K H a xs:=.inl (.inl h)
theorem SqT.of {K:PySem.W.Frag} (h:H a=some (.tup xs)):SqT K H a xs:=.inl (.inl h)
theorem Inv.list (I:Inv X pins σ H s) (h:SqL X.K H a xs):∃its:List Value,Vals xs its/\PlainL s.heap a its.toArray/\xs.length<=sizeLine:=by
 rcases h with h | ⟨o,its,n,hk,hc,hd,hs,hz,r⟩
 .obtain ⟨z,its,n,r,e⟩:=h.ok I.hok;exact ⟨its,r,⟨_,n,e,rfl,rfl,rfl⟩,z⟩
 .refine ⟨its.toList,r,⟨o,n,I.kIn a o hk,hc,hd,by simpa using hs⟩, ?_⟩;have e:=r.length;simp only[Array.length_toList] at e;omega
theorem Inv.tuple (I:Inv X pins σ H s) (h:SqT X.K H a xs):∃its:List Value,Vals xs its/\IsTup s.heap a its.toArray/\xs.length<=sizeLine:=by
 rcases h with h | ⟨o,its,n,hk,hc,hs,hz,r⟩
 .obtain ⟨z,its,r,p⟩:=h.ok I.hok;exact ⟨its,r,p,z⟩
 .refine ⟨its.toList,r,⟨o,I.kIn a o hk,hc,n,by simpa using hs⟩, ?_⟩;have e:=r.length;simp only[Array.length_toList] at e;omega
theorem Inv.list_inj (I:Inv X pins σ H s) (h:SqL X.K H a xs) (h':SqL X.K H a ys):xs=ys:=by
 obtain ⟨its,r,⟨o,n,e,_,_,d⟩,_⟩:=I.list h;obtain ⟨its',r',⟨o',n',e',_,_,d'⟩,_⟩:=I.list h';rw[e] at e';cases e';rw[d] at d'
 injection d' with d1 _
 have:its=its':=by simpa using congrArg Array.toList d1
 subst this;exact r.inj r'
theorem Inv.tuple_inj (I:Inv X pins σ H s) (h:SqT X.K H a xs) (h':SqT X.K H a ys):xs=ys:=by
 obtain ⟨its,r,⟨o,e,_,n,d⟩,_⟩:=I.tuple h;obtain ⟨its',r',⟨o',e',_,n',d'⟩,_⟩:=I.tuple h';rw[e] at e';cases e';rw[d] at d'
 injection d' with d1 _
 have:its=its':=by simpa using congrArg Array.toList d1
 subst this;exact r.inj r'
end
abbrev Cx.wish (X:Cx) (E:Value->Shared->Prop):Cx:={ X with xe:=E }
abbrev Cx.nox (X:Cx):Cx:=X.wish fun _ _=>False
theorem Cx.Ok.wish {X:Cx} (ok:X.Ok) (E:Value->Shared->Prop):(X.wish E).Ok:=
 ⟨ok.mod,ok.kind,ok.glob,ok.blt,ok.above,ok.inj,ok.has,ok.cab,ok.hd,ok.frames,ok.stk,ok.exf,ok.bs,ok.bsz,ok.noex,ok.exfs,ok.funs,ok.frf⟩
theorem Cx.Ok.unwish {X:Cx} {E:Value->Shared->Prop} (ok:(X.wish E).Ok):X.Ok:=
 ⟨ok.mod,ok.kind,ok.glob,ok.blt,ok.above,ok.inj,ok.has,ok.cab,ok.hd,ok.frames,ok.stk,ok.exf,ok.bs,ok.bsz,ok.noex,ok.exfs,ok.funs,ok.frf⟩
section
variable {X:Cx} {pins:List (Addr×Obj)} {σ:St} {H:Hp} {s:Shared} {E:Value->Shared->Prop}
theorem Inv.wish (I:Inv X pins σ H s) (E:Value->Shared->Prop):Inv (X.wish E) pins σ H s:=⟨I.ok.wish E,I.os,I.bare,I.base,I.loc,I.cell,I.free,I.freeC,I.pin,I.hok,I.len⟩
theorem Inv.unwish (I:Inv (X.wish E) pins σ H s):Inv X pins σ H s:=⟨I.ok.unwish,I.os,I.bare,I.base,I.loc,I.cell,I.free,I.freeC,I.pin,I.hok,I.len⟩
theorem SP.unwish {D:Ends} {f:Flow} {s':Shared} (h:SP (X.wish E) pins D f s'):SP X pins D f s':=by
 cases f with
 | next=>obtain ⟨σ',H',I,q⟩:=h;exact ⟨σ',H',I.unwish,q⟩
 | brk=>obtain ⟨σ',H',I,q⟩:=h;exact ⟨σ',H',I.unwish,q⟩
 | cont=>obtain ⟨σ',H',I,q⟩:=h;exact ⟨σ',H',I.unwish,q⟩
 | ret u=>obtain ⟨v,σ',H',I,r,q⟩:=h;exact ⟨v,σ',H',I.unwish,r,q⟩
theorem PSs.nox {st:List Stmt} {t:TS} (h:PSs X.nox st t):PSs X st t:=fun pins s σ H D I hw=>
 wpAny_mono (h pins s σ H D (I.wish _) hw) (fun _ _ q=>q.unwish) fun _ _ z=>False.elim z
end
section
variable {X:Cx} {st:Stmt} {rest:List Stmt} {t u:TS} {e:Expr} {te:TE} {pos:Pos}
def zsR:TS:=fun D σ H=>D.nx σ H
def tSeq (t u:TS):TS:=fun D σ H=>t { D with nx:=u D } σ H
theorem pss_nil:PSs X [] zsR:=fun _ _ σ H _ I h=>wpAny_execs_nil ⟨σ,H,I,h⟩
theorem zmv (h1:PS X st t) (h2:PSs X rest u):PSs X (st::rest) (tSeq t u):=by
 intro pins s σ H D I h;refine wpAny_execs_cons (thn (h1 pins s σ H { D with nx:=u D } I h) fun f s1 q=>?_)
 cases f with
 | next=>
  obtain ⟨σ',H',I',q⟩:=q;exact h2 pins s1 σ' H' D I' q
 | ret v=>exact q
 | brk=>exact q
 | cont=>exact q
theorem zn5 (h1:PS X st t):PSs X [st] t:=by
 intro pins s σ H D I h;refine wpAny_execs_cons (thn (h1 pins s σ H D I h) fun f s1 q=>?_)
 cases f with
 | next=>exact wpAny_execs_nil q
 | ret v=>exact q
 | brk=>exact q
 | cont=>exact q
def zrK:TS:=fun D σ H=>D.bk σ H
theorem ps_break:PS X (.Break pos) zrK:=fun _ _ σ H _ I h=>wpAny_Break ⟨σ,H,I,h⟩
theorem Inv.quiet {pins:List (Addr×Obj)} {σ:St} {H:Hp} {s:Shared} (I:Inv X pins σ H s):interactive X.env=false:=by simp[interactive,I.ok.kind]
def zs1 (te:TE):TS:=fun D σ H=>te σ H fun _ H1=>D.nx σ H1
theorem zpg (he:PE X e te) (hs:swapsWith e none pos.line X.env=pure false:=by rfl):PS X (.Expr e pos) (zs1 te):=by
 intro pins s σ H D I h;exact wpAny_Expr_any (thn (he pins s σ H _ I h) fun v s1 ⟨x,H1,I1,r1,q1⟩=>⟨σ,H1,I1,q1⟩) I.quiet hs
def tRet (te:TE):TS:=fun D σ H=>te σ H D.rt
theorem zpF (he:PE X e te):PS X (.Return (some e) pos) (tRet te):=by
 intro pins s σ H D I h;exact wpAny_Return_some (thn (he pins s σ H _ I h) fun v s1 ⟨x,H1,I1,r1,q1⟩=>⟨x,σ,H1,I1,r1,q1⟩)
def tIfS (c:TT) (t u:TS):TS:=fun D σ H=>c σ H fun b H1=>if b=true then t D σ H1 else u D σ H1
theorem zta {c:Expr} {a b:List Stmt} {tc:TT} (hc:PT X c tc) (ha:PSs X a t) (hb:PSs X b u):PS X (.If c a b pos) (tIfS tc t u):=by
 intro pins s σ H D I h;refine wpAny_If (thn (hc pins s σ H _ I h) fun d s1 hx__=>?_);obtain ⟨H1,I1,q1⟩:=hx__
 cases d with
 | true=>exact ha pins s1 σ H1 D I1 q1
 | false=>exact hb pins s1 σ H1 D I1 q1
end
abbrev TG:=V->St->Hp->(St->Hp->Prop)->Prop
abbrev TGs:=List V->St->Hp->(St->Hp->Prop)->Prop
def PG (X:Cx) (target:Expr) (t:TG):Prop:=
 ∀(pins:List (Addr×Obj)) (s:Shared) (σ:St) (H:Hp) (v:V) (u:Value) (Q:St->Hp->Prop),Inv X pins σ H s->RelV v u->t v σ H Q->
  wpAny (model X.prog X.w) X.A (assign target X.env u) (fun _ s'=>∃σ' H',Inv X pins σ' H' s'/\Q σ' H') X.xe s
def PGs (X:Cx) (ts:List Expr) (t:TGs):Prop:=
 ∀(pins:List (Addr×Obj)) (s:Shared) (σ:St) (H:Hp) (vs:List V) (us:List Value) (Q:St->Hp->Prop),Inv X pins σ H s->Vals vs us->t vs σ H Q->
  wpAny (model X.prog X.w) X.A (assignInOrder ((assignEach ts X.env).map (·.2)) us) (fun _ s'=>∃σ' H',Inv X pins σ' H' s'/\Q σ' H') X.xe s
abbrev TSet:=V->V->V->Hp->(Hp->Prop)->Prop
def PSet (X:Cx) (t:TSet):Prop:=
 ∀(pins:List (Addr×Obj)) (s:Shared) (σ:St) (H:Hp) (o i v:V) (ov iv u:Value) (Q:Hp->Prop),Inv X pins σ H s->RelV o ov->RelV i iv->RelV v u->t o i v H Q->
  wpAny (model X.prog X.w) X.A (setItem ov iv u) (fun _ s'=>∃H',Inv X pins σ H' s'/\Q H') X.xe s
abbrev TIp:=V->V->Hp->VK->Prop
def PIp (X:Cx) (op:Operator) (t:TIp):Prop:=
 ∀(pins:List (Addr×Obj)) (s:Shared) (σ:St) (H:Hp) (x y:V) (v u:Value) (Q:VK),Inv X pins σ H s->RelV x v->RelV y u->t x y H Q->
  wpAny (model X.prog X.w) X.A (inplaceOp op v u) (EP X pins σ Q) X.xe s
section
variable {X:Cx} {pos:Pos}
def zkn (i:Nat):TG:=fun v σ H Q=>Q (σ.set i (some v)) H
theorem zao {i:Nat} {x:Str} (hN:X.N.Nodup) (hi:X.N[i]? = some x) (hx:Loc X.env.scope x) (hf:X.fn x=true\/X.env.scope.names.lookup x=some .local:=by first | exact .inl rfl | exact .inr rfl | assumption):PG X (.Name x pos) (zkn i):=by
 intro pins s σ H v u Q I r h;exact wpAny_assign_Name (zht I hN hi hx r (fun s' I'=>⟨_,H,I',h⟩) hf)
def gNil:TGs:=fun vs σ H Q=>vs=[]/\Q σ H
def zsJ (t:TG) (u:TGs):TGs:=fun vs σ H Q=>∃v r,vs=v::r/\t v σ H fun σ' H'=>u r σ' H' Q
theorem zoR:PGs X [] gNil:=by
 intro pins s σ H vs us Q I r h;obtain ⟨e,h⟩:=h;subst e;cases r;exact assignInOrder_nil ⟨σ,H,I,h⟩
theorem zmM {e:Expr} {es:List Expr} {t:TG} {u:TGs} (h1:PG X e t) (h2:PGs X es u)
  (hs:(assignEach (e::es) X.env).map (·.2)=assign e X.env::(assignEach es X.env).map (·.2):=by rfl):PGs X (e::es) (zsJ t u):=by
 intro pins s σ H vs us Q I r h;obtain ⟨v,vr,e1,h⟩:=h;subst e1
 cases r with
 | cons r rr=>
  rw[hs];refine assignInOrder_cons (thn (h1 pins s σ H _ _ _ I r h) fun _ s1 hx__=>?_);obtain ⟨σ1,H1,I1,q1⟩:=hx__;exact h2 pins s1 σ1 H1 _ _ Q I1 rr q1
def gTup (K:PySem.W.Frag) (n:Nat) (t:TGs):TG:=fun v σ H Q=>∃a xs,v=.ref a/\SqT K H a xs/\xs.length=n/\t xs σ H Q
theorem zqR {es:List Expr} {k:Nat} {t:TGs} {n:Nat} (hc:X.calm=true) (h:PGs X es t)
  (hn:(assignEach es X.env).length=n:=by rfl) (hst:(assignEach es X.env).findIdx? (·.1)=none:=by rfl):PG X (.Tuple es k pos) (gTup X.K n t):=by
 intro pins s σ H v u Q I r hw;obtain ⟨a,xs,e1,hq,hl,hw⟩:=hw;subst e1;cases r;obtain ⟨its,rv,ht,hz⟩:=I.tuple hq;refine assign_Tuple_tuple (I.ok.hd hc) ht (by simp[hn,<-hl,rv.length]) hst fun h' hx=>?_
 have I1:Inv X pins σ H { s with heap:=h' }:=I.kept (t':=s.toks) fun b o e=>hx b o (Nat.ne_of_lt (Heap.lt_size e)) e
 exact h pins _ σ H xs _ Q I1 (by simpa using rv) hw
def gSub (to ti:TE) (t:TSet):TG:=fun v σ H Q=>to σ H fun o H1=>ti σ H1 fun i H2=>t o i v H2 fun H3=>Q σ H3
theorem zrn {o i:Expr} {to ti:TE} {t:TSet} (ho:PE X o to) (hi:PE X i ti) (hs:PSet X t)
  (ha:∀v,assign (.Subscript o i pos) X.env v=(do
   let ov <-holding [v] (eval o X.env)
   let iv <-holding [v,ov] (eval i X.env)
   standAt pos
   holding [v,ov,iv] (setItem ov iv v)
   release [v,ov,iv] []):=by intro _;rfl):PG X (.Subscript o i pos) (gSub to ti t):=by
 intro pins s σ H v u Q I r h;rw[ha];refine wpAny_bind (wpAny_holding (thn (ho pins s σ H _ I h) fun ov s1 hx__=>?_));obtain ⟨x,H1,I1,r1,q1⟩:=hx__;refine wpAny_bind (wpAny_holding (thn (hi pins s1 σ H1 _ I1 q1) fun iv s2 hx__=>?_));obtain ⟨y,H2,I2,r2,q2⟩:=hx__;refine wpAny_bind (wpAny_standAt (wpAny_bind (wpAny_holding (thn (hs pins s2 σ H2 x y v ov iv u _ I2 r1 r2 r q2) fun _ s3 hx__=>?_))));obtain ⟨H3,I3,q3⟩:=hx__;exact wpAny_release ⟨σ,H3,I3,q3⟩
def tAsg (te:TE) (g:TG):TS:=fun D σ H=>te σ H fun x H1=>g x σ H1 D.nx
theorem znv {tg e:Expr} {te:TE} {g:TG} (he:PE X e te) (hg:PG X tg g) (hs:swapsWithSole [tg] e pos.line X.env=pure false:=by rfl) (hw:swappedStores [tg] e X.env=pure none:=by rfl)
  (h1:(assignEach [tg] X.env).map (·.2)=[assign tg X.env]:=by rfl):PS X (.Assign [tg] e pos) (tAsg te g):=by
 intro pins s σ H D I h;refine wpAny_Assign_stores (thn (he pins s σ H _ I h) fun v s1 ⟨x,H1,I1,r1,q1⟩=>?_) hs hw;rw[h1];exact thn (hg pins s1 σ H1 x v _ I1 r1 q1) fun _ s2 q=>q
theorem zqc {i:Nat} {x:Str} {e:Expr} {te:TE} {pos':Pos} (hN:X.N.Nodup) (hi:X.N[i]? = some x) (hx:Loc X.env.scope x) (he:PE X e te) (hs:swapsWith e (some (.Name x pos')) pos.line X.env=pure false:=by rfl) (hf:X.fn x=true\/X.env.scope.names.lookup x=some .local:=by first | exact .inl rfl | exact .inr rfl | assumption) :
  PS X (.Assign [.Name x pos'] e pos) (tAsg te (zkn i)):=by
 intro pins s σ H D I h;refine wpAny_Assign_Name (thn (he pins s σ H _ I h) fun v s1 ⟨y,H1,I1,r1,q1⟩=>?_) hs;exact zht I1 hN hi hx r1 (fun s2 I2=>⟨_,H1,I2,q1⟩) hf
def tAug (i:Nat) (te:TE) (ti:TIp):TS:=fun D σ H=>∃x,σ[i]? = some (some x)/\te σ H fun y H1=>ti x y H1 fun z H2=>D.nx (σ.set i (some z)) H2
theorem zrC {i:Nat} {x:Str} {e:Expr} {te:TE} {op:Operator} {ti:TIp} {pos':Pos} (hN:X.N.Nodup) (hi:X.N[i]? = some x) (hx:Loc X.env.scope x) (he:PE X e te) (ho:PIp X op ti) (hf:X.fn x=true\/X.env.scope.names.lookup x=some .local:=by first | exact .inl rfl | exact .inr rfl | assumption) :
  PS X (.AugAssign (.Name x pos') op e pos) (tAug i te ti):=by
 intro pins s σ H D I h;obtain ⟨v,e1,h⟩:=h;obtain ⟨m,hn,hl⟩:=I.loc;have vis:Vis X.env.scope x:=by rcases hx with k | k;exact .inl k;exact .inr (.inl k)
 obtain ⟨u,r,l⟩:=hl i x v hi e1 vis;refine wpAny_AugAssign_Name ?_;have go:wpAny (model X.prog X.w) X.A (eval e X.env) (fun w s₂=>wpAny (model X.prog X.w) X.A (inplaceOp op u w) (fun r s₃=>wpAny (model X.prog X.w) X.A (storeName X.env x r) (fun _=>SP X pins D .next) X.xe s₃) X.xe s₂) X.xe s:=by
  refine thn (he pins s σ H _ I h) fun w s1 hx__=>?_
  obtain ⟨y,H1,I1,r1,q1⟩:=hx__;refine thn (ho pins s1 σ H1 v y u w _ I1 r r1 q1) fun z s2 hx__=>?_
  obtain ⟨zv,H2,I2,r2,q2⟩:=hx__;exact zht I2 hN hi hx r2 (fun s3 I3=>⟨_,H2,I3,q2⟩) hf
 rcases l with ⟨hk,hm⟩ | ⟨hk,c,hc,hcell⟩
 .exact wpAny_loadName_local I.ok.kind hk hn hm go
 .rcases hk with hk | hk
  .exact wpAny_loadName_cell I.ok.kind hk hc hcell go
  .rcases hx with k | k
   .have:X.env.scope.names.lookup x=some .free:=hk
    rw[k] at this;cases this
   .have:X.env.scope.names.lookup x=some .free:=hk
    rw[k] at this;cases this
def ipI (f:Int->Int->Int):TIp:=fun x y H Q=>∃i j,x=.int i/\y=.int j/\Q (.int (f i j)) H
theorem zpz:PIp X .Add (ipI fun i j=>i+j):=by
 intro pins s σ H x y v u Q I r1 r2 h;obtain ⟨i,j,e1,e2,q⟩:=h;subst e1;subst e2;obtain ⟨t,rfl⟩:=r1;obtain ⟨t',rfl⟩:=r2;exact iadd_int ⟨.int _,H,I.tok _,⟨_,rfl⟩,q⟩
end
section
variable {X:Cx} {pos:Pos}
def zpM (c:TT) (tb:TS):TS:=fun D σ H=>∃W:Nat->St->Hp->Prop,(∃m,W m σ H)/\∀m σ H,W m σ H->
 c σ H fun b H1=>if b=true then ∃N:St->Hp->Prop,(∀σ' H',N σ' H'->∃m',m' < m/\W m' σ' H')/\tb { D with nx:=N,ct:=N,bk:=D.nx } σ H1 else D.nx σ H1
theorem zmi {c:Expr} {body:List Stmt} {tc:TT} {tb:TS} (hp:PassesOwn (model X.prog X.w) X.A X.env X.xe) (hc:PT X c tc) (hb:PSs X body tb):PS X (.While c body [] pos) (zpM tc tb):=by
 intro pins s σ H D I h;obtain ⟨W,⟨m0,w0⟩,turn⟩:=h;refine wpAny_While (codeAny_whileLoop (fun n s'=>∃σ' H',Inv X pins σ' H' s'/\W n σ' H') ?_ m0 ⟨σ,H,I,w0⟩)
 rintro n s1 ⟨σ1,H1,I1,w1⟩
 refine wpAny_passesOwn hp (thn (hc pins s1 σ1 H1 _ I1 (turn n σ1 H1 w1)) fun b s2 hx__=>?_);obtain ⟨H2,I2,q2⟩:=hx__
 cases b with
 | true=>
  obtain ⟨N,hN,q2⟩:=q2;rw[if_pos rfl];refine wpAny_passesOwn hp (thn (hb pins s2 σ1 H2 _ I2 q2) fun f s3 q3=>?_)
  cases f with
  | next=>
   obtain ⟨σ3,H3,I3,n3⟩:=q3;obtain ⟨m',hm,w3⟩:=hN σ3 H3 n3;exact ⟨m',hm,σ3,H3,I3,w3⟩
  | cont=>
   obtain ⟨σ3,H3,I3,n3⟩:=q3;obtain ⟨m',hm,w3⟩:=hN σ3 H3 n3;exact ⟨m',hm,σ3,H3,I3,w3⟩
  | brk=>exact q3
  | ret v=>exact q3
 | false=>
  rw[if_neg Bool.false_ne_true];exact wpAny_execs_nil ⟨σ1,H2,I2,q2⟩
end
structure It where
 go:Nat->Hp->Prop
 yld:Nat->Hp->V->Hp->Prop
 stop:Nat->Hp->Prop
def FpOk (X:Cx) (pins:List (Addr×Obj)) (H:Hp) (b:Addr):Prop:=
 H b=none/\b≠X.env.locals/\b∉X.fs/\(b∈X.ex\/X.s₀.heap.objs.size<=b)/\(∀x c,X.env.cells.lookup x=some c->c≠b)/\∀p∈X.pn++pins,p.1≠b
theorem Inv.fpOk {X:Cx} {pins:List (Addr×Obj)} {σ:St} {H H':Hp} {s:Shared} {b:Addr} (I:Inv X pins σ H s) (hb:s.heap.objs.size<=b) (hn:H' b=none):FpOk X pins H' b:=by
 refine ⟨hn,Nat.ne_of_gt (Nat.lt_of_lt_of_le I.lt hb),I.nofs hb,.inr (Nat.le_trans I.sz hb),fun x c e z=>?_,fun p hp z=>?_⟩
 .obtain ⟨v,q⟩:=I.cell x c e;exact absurd (Nat.lt_of_lt_of_le q.lt (by rw[z];exact hb)) (Nat.lt_irrefl _)
 .exact absurd (Nat.lt_of_lt_of_le (Heap.lt_size (I.pin p hp).1) (by rw[z];exact hb)) (Nat.lt_irrefl _)
structure Turn (P:Program) (w:World) (K:PySem.W.Frag) (tg:Expr) (J:It) (fp:List Addr) (it:Addr) (tn:Nat->Heap->Prop):Prop where
 mem:it∈fp
 obj:∀i h,tn i h->∀b∈fp,∃o,h.get? b=some o/\∀v,o.data≠.cell v
 keep:∀i h h',tn i h->(∀b∈fp,∀o,h.get? b=some o->h'.get? b=some o)->tn i h'
 item:∀(X:Cx),X.prog=P->X.w=w->X.K=K->X.calm=true->∀(i:Nat) (pins:List (Addr×Obj)) (s:Shared) (σ:St) (H:Hp) (E:Value->Shared->Prop),Inv X pins σ H s->(∀b∈fp,FpOk X pins H b)->tn i s.heap->J.go i H->
  wpAny (model P w) X.A (pyNext (.ref it)) (fun r s1=>∃u,r=some u/\
   wpAny (model P w) X.A (letOwnedTupleGo tg (.ref it) u) (fun _ s2=>∃x H',Inv X pins σ H' s2/\RelV x u/\J.yld i H x H'/\tn (i+1) s2.heap/\∀b∈fp,H' b=none) E s1) E s
 done:∀(X:Cx),X.prog=P->X.w=w->X.K=K->X.calm=true->∀(i:Nat) (pins:List (Addr×Obj)) (s:Shared) (σ:St) (H:Hp) (E:Value->Shared->Prop),Inv X pins σ H s->(∀b∈fp,FpOk X pins H b)->tn i s.heap->J.stop i H->
  wpAny (model P w) X.A (pyNext (.ref it)) (fun r s1=>r=none/\Inv X pins σ H s1) E s
 self:∀(A:Around) (i:Nat) (s:Shared) (Q:Value->Shared->Prop) (E:Value->Shared->Prop),tn i s.heap->Q (.ref it) s->wpAny (model P w) A (pyIter (.ref it)) Q E s
abbrev TI:=St->Hp->(It->Hp->Prop)->Prop
def PIE (X:Cx) (pins:List (Addr×Obj)) (σ:St) (tg:Expr) (R:It->Hp->Prop) (itv:Value) (s2:Shared):Prop:=
 ∃(it:Addr) (fp:List Addr) (tn:Nat->Heap->Prop) (J:It) (H':Hp),itv=.ref it/\Inv X pins σ H' s2/\Turn X.prog X.w X.K tg J fp it tn/\tn 0 s2.heap/\(∀b∈fp,FpOk X pins H' b)/\R J H'
def PI (X:Cx) (tg iter:Expr) (wi:TI):Prop:=
 ∀(pins:List (Addr×Obj)) (s:Shared) (σ:St) (H:Hp) (R:It->Hp->Prop),Inv X pins σ H s->wi σ H R->
  wpAny (model X.prog X.w) X.A (eval iter X.env) (fun v s1=>wpAny (model X.prog X.w) X.A (pyIter v) (PIE X pins σ tg R) X.xe s1) X.xe s
theorem zpi {M:Model} {A:Around} {E:Value->Shared->Prop} {s:Shared} {tg:Expr} {it:Addr} {u:Value} {o:Obj} {n:String} {vs:Array Value} {Q:Unit->Shared->Prop} (ho:s.heap.get? it=some o) (hc:o.cls=.type n) (hd:o.data=.fields vs)
    (hn:["enumerate","zip","dict_itemiterator","dict_reverseitemiterator","odict_iterator","itertools.zip_longest","itertools.pairwise"].contains n=false) (hQ:Q () s):wpAny M A (letOwnedTupleGo tg (.ref it) u) Q E s:=by
  unfold letOwnedTupleGo
  cases tg<;>first
    | exact wpAny_pure hQ
    | (cases u<;>first
        | exact wpAny_pure hQ
        | (refine wpAny_bind (wpAny_load ho ?_)
           rw[hc,hd]
           show wpAny M A (if (["enumerate","zip","dict_itemiterator","dict_reverseitemiterator","odict_iterator","itertools.zip_longest","itertools.pairwise"].contains n&&vs[0]? == some (rawInt _))=true then _ else _) Q E s
           rw[if_neg (by intro h;rw[hn,Bool.false_and] at h;cases h)];exact wpAny_pure hQ))
def Itl (K:PySem.W.Frag) (a:Addr):It:=
 ⟨fun i H=>∃xs x,SqL K H a xs/\xs[i]? = some x,fun i H x H'=>H'=H/\∀xs,SqL K H a xs->xs[i]? = some x,fun i H=>∃xs,SqL K H a xs/\xs.length<=i⟩
def Itt (K:PySem.W.Frag) (a:Addr):It:=
 ⟨fun i H=>∃xs x,SqT K H a xs/\xs[i]? = some x,fun i H x H'=>H'=H/\∀xs,SqT K H a xs->xs[i]? = some x,fun i H=>∃xs,SqT K H a xs/\xs.length<=i⟩
def Itr (lo:Int) (n:Nat):It:=⟨fun i _=>i < n,fun i H x H'=>H'=H/\x=.int (lo+i),fun i _=>n<=i⟩
theorem zkE {P:Program} {w:World} {K:PySem.W.Frag} {tg:Expr} (a it:Addr):Turn P w K tg (Itl K a) [it] it (fun i h=>h.IsListIter it a i) where
 mem:=by simp
 obj:=fun i h st b hb=>by
  have e:b=it:=by simpa using hb
  subst e;obtain ⟨o,e,c,d⟩:=st;exact ⟨o,e,fun v z=>by rw[d] at z;cases z⟩
 keep:=fun i h h' st k=>st.at fun o e=>k it (by simp) o e
 item:=by
  intro X hP hw hK hc i pins s σ H E I hf st hg;subst hP hw hK;obtain ⟨xs,x,hq,hx⟩:=hg;obtain ⟨its,rv,p,hz⟩:=I.list hq;obtain ⟨u,hu,ru⟩:=rv.get hx;obtain ⟨f0,f1,f2,f3,f4,f5⟩:=hf it (by simp);refine wpAny_pyNext_list_item st p.isList (x:=u) (by simpa using hu) fun h' st' sb=>?_
  have I1:Inv X pins σ H { s with heap:=h' }:=I.turned (t':=s.toks) (fun b o hb e=>(sb.2 b hb).trans e) f0 f1 f3 f4 f5;obtain ⟨o,e,c,d⟩:=id st';exact ⟨u,rfl,zpi (s:={ s with heap:=h' }) e c d (by decide) ⟨x,H,I1,ru,⟨rfl,fun ys hy=>by rw[I.list_inj hy hq];exact hx⟩,st',fun b hb=>(hf b hb).1⟩⟩
 done:=by
  intro X hP hw hK hc i pins s σ H E I hf st hg;subst hP hw hK;obtain ⟨xs,hq,hx⟩:=hg;obtain ⟨its,rv,p,hz⟩:=I.list hq;obtain ⟨f0,f1,f2,f3,f4,f5⟩:=hf it (by simp);have hl:=rv.length;exact wpAny_pyNext_list_end (I.ok.hd hc) st p.isList (by simp;omega) fun h' eb=>⟨rfl,I.turned (t':=s.toks) (fun b o hb e=>eb b o hb e) f0 f1 f3 f4 f5⟩
 self:=fun _ _ _ _ _ st h=>wpAny_pyIter_listiter st h
theorem zky {P:Program} {w:World} {K:PySem.W.Frag} {tg:Expr} (a it:Addr):Turn P w K tg (Itt K a) [it] it (fun i h=>h.IsTupleIter it a i) where
 mem:=by simp
 obj:=fun i h st b hb=>by
  have e:b=it:=by simpa using hb
  subst e;obtain ⟨o,e,c,d⟩:=st;exact ⟨o,e,fun v z=>by rw[d] at z;cases z⟩
 keep:=fun i h h' st k=>st.at fun o e=>k it (by simp) o e
 item:=by
  intro X hP hw hK hc i pins s σ H E I hf st hg;subst hP hw hK;obtain ⟨xs,x,hq,hx⟩:=hg;obtain ⟨its,rv,p,hz⟩:=I.tuple hq;obtain ⟨u,hu,ru⟩:=rv.get hx;obtain ⟨f0,f1,f2,f3,f4,f5⟩:=hf it (by simp);refine wpAny_pyNext_tuple_item st (show s.heap.IsTuple a its.toArray from p) (x:=u) (by simpa using hu) fun h' st' sb=>?_
  have I1:Inv X pins σ H { s with heap:=h' }:=I.turned (t':=s.toks) (fun b o hb e=>(sb.2 b hb).trans e) f0 f1 f3 f4 f5;obtain ⟨o,e,c,d⟩:=id st';exact ⟨u,rfl,zpi (s:={ s with heap:=h' }) e c d (by decide) ⟨x,H,I1,ru,⟨rfl,fun ys hy=>by rw[I.tuple_inj hy hq];exact hx⟩,st',fun b hb=>(hf b hb).1⟩⟩
 done:=by
  intro X hP hw hK hc i pins s σ H E I hf st hg;subst hP hw hK;obtain ⟨xs,hq,hx⟩:=hg;obtain ⟨its,rv,p,hz⟩:=I.tuple hq;obtain ⟨f0,f1,f2,f3,f4,f5⟩:=hf it (by simp);have hl:=rv.length;exact wpAny_pyNext_tuple_end (I.ok.hd hc) st (show s.heap.IsTuple a its.toArray from p) (by simp;omega) fun h' eb=>⟨rfl,I.turned (t':=s.toks) (fun b o hb e=>eb b o hb e) f0 f1 f3 f4 f5⟩
 self:=fun _ _ _ _ _ st h=>wpAny_pyIter_tupleiter st h
theorem zkt {P:Program} {w:World} {K:PySem.W.Frag} {tg:Expr} (it:Addr) (lo:Int) (n:Nat):Turn P w K tg (Itr lo n) [it] it (fun i h=>IsRangeIter h it (lo+(i:Nat) * 1) ((n:Int) - (i:Nat)) 1) where
 mem:=by simp
 obj:=fun i h st b hb=>by
  have e:b=it:=by simpa using hb
  subst e;exact ⟨_,st,fun v z=>by
   have z':Data.fields _=Data.cell v:=z
   cases z'⟩
 keep:=fun i h h' st k=>k it (by simp) _ st
 item:=by
  intro X hP hw hK hc i pins s σ H E I hf st hg;subst hP hw hK;obtain ⟨f0,f1,f2,f3,f4,f5⟩:=hf it (by simp);have W:=Walks.range (prog:=X.prog) (w:=X.w) (I.ok.hd hc) it lo 1 n;refine W.item i s _ _ hg st fun v h' tk hv st' kk=>?_
  obtain ⟨t,rfl⟩:=hv;have I1:Inv X pins σ H { s with heap:=h',toks:=tk }:=I.turned (fun b o hb e=>kk b o (by simpa using hb) e) f0 f1 f3 f4 f5;refine ⟨_,rfl,zpi (s:={ s with heap:=h',toks:=tk }) (n:="range_iterator") st' rfl rfl (by decide) ⟨.int (lo+i),H,I1,⟨t, ?_⟩,⟨rfl,rfl⟩,st',fun b hb=>(hf b hb).1⟩⟩;rw[Int.mul_one]
 done:=by
  intro X hP hw hK hc i pins s σ H E I hf st hg;subst hP hw hK;obtain ⟨f0,f1,f2,f3,f4,f5⟩:=hf it (by simp);exact wpAny_pyNext_range_end (I.ok.hd hc) st (by have:n<=i:=hg;omega) fun h' eb=>⟨rfl,I.turned (t':=s.toks) (fun b o hb e=>eb b o hb e) f0 f1 f3 f4 f5⟩
 self:=fun _ _ _ _ _ st h=>wpAny_pyIter_rangeiter st h
section
variable {X:Cx} {tg:Expr}
theorem zmS {pins:List (Addr×Obj)} {σ:St} {H:Hp} {s:Shared} {R:It->Hp->Prop} {E:Value->Shared->Prop} {lo hi:Int} {t u v:Tok} {tk:Nat} (I:Inv X pins σ H s) (h1:-(2 ^ 62)<=lo) (h2:lo < 2 ^ 62) (h3:-(2 ^ 62)<=hi) (h4:hi < 2 ^ 62)
  (q:R (Itr lo (hi - lo).toNat) H):wpAny (model X.prog X.w) X.A (pyIter (.ref s.heap.objs.size)) (PIE X pins σ tg R) E { s with heap:=s.heap.push { cls:=.type "range",data:=.fields #[.int lo t,.int hi u,.int 1 v] },toks:=tk }:=by
 refine wpAny_pyIter_range (IsRange.new ..) (small_one h1 h2 h3 h4) ?_;have I1:Inv X pins σ H { s with heap:=s.heap.push { cls:=.type "range",data:=.fields #[.int lo t,.int hi u,.int 1 v] },toks:=tk }:=I.kept fun b o e=>Heap.get?_push_of_some _ e
 refine ⟨(s.heap.push { cls:=.type "range",data:=.fields #[.int lo t,.int hi u,.int 1 v] }).objs.size,[(s.heap.push { cls:=.type "range",data:=.fields #[.int lo t,.int hi u,.int 1 v] }).objs.size],_,_,H,rfl,
  I1.kept (t':=tk) fun b o e=>Heap.get?_push_of_some _ e,zkt _ lo (hi - lo).toNat, ?_,fun b hb=>?_,q⟩
 .have e1:lo+((0:Nat):Int) * 1=lo:=by simp
  have e2:(((hi - lo).toNat:Nat):Int) - ((0:Nat):Int)=Builtin.Range.rangeSize lo hi 1:=by rw[rangeSize_one];split<;>omega
  show IsRangeIter _ _ (lo+((0:Nat):Int) * 1) ((((hi - lo).toNat:Nat):Int) - ((0:Nat):Int)) 1
  rw[e1,e2];exact Heap.get?_push_size _ rfl
 .have e:b=(s.heap.push { cls:=.type "range",data:=.fields #[.int lo t,.int hi u,.int 1 v] }).objs.size:=by simpa using hb
  subst e;exact I1.fpOk (Nat.le_refl _) (I1.hok.fresh (Nat.le_refl _))
def zqA (ta:TA):TI:=fun σ H R=>ta σ H fun vs H1=>∃j:Int,vs=[.int j]/\-(2 ^ 62)<=j/\j < 2 ^ 62/\R (Itr 0 j.toNat) H1
theorem zgl {a:Expr} {ta:TA} {p pos:Pos} (hg:Gl X "range") (hm:X.mg "range"=none) (ha:PA X [a] ta) (hs:starEach [a] X.env=[(false,eval a X.env)]:=by rfl):PI X tg (.Call (.Name "range" p) [a] [] pos) (zqA ta):=by
 intro pins s σ H R I h;refine Call_ (zhX I hg hm boot_range (PyProof.Rows.callWith_type1 (thn (ha pos pins s σ H _ I h) fun us s1 ⟨vs,H1,I1,r1,q1⟩=>?_) hs rfl));obtain ⟨j,e,q1,q2,q⟩:=q1;subst e
 cases r1 with
 | cons r rr=>
  cases rr;obtain ⟨t,rfl⟩:=r;exact call_range_1 (zmS I1 (by omega) (by omega) q1 q2 (by simpa using q))
def tFor (wi:TI) (g:TG) (tb:TS):TS:=fun D σ H=>wi σ H fun J H1=>∃W:Nat->Nat->St->Hp->Prop,(∃m,W 0 m σ H1)/\∀i m σ H,W i m σ H->
 (J.stop i H/\D.nx σ H)\/(J.go i H/\∃N:St->Hp->Prop,(∀σ' H',N σ' H'->∃m',m' < m/\W (i+1) m' σ' H')/\∀x H',J.yld i H x H'->g x σ H' fun σ2 H2=>tb { D with nx:=N,ct:=N,bk:=D.nx } σ2 H2)
def zhb (fp:List Addr) (h:Heap):List (Addr×Obj):=fp.filterMap fun b=>(h.get? b).map fun o=>(b,o)
theorem zeR {fp:List Addr} {h:Heap} {b:Addr} {o:Obj} (hb:b∈fp) (e:h.get? b=some o):(b,o)∈zhb fp h:=List.mem_filterMap.mpr ⟨b,hb,by rw[e];rfl⟩
theorem zlX {fp:List Addr} {h:Heap} {p:Addr×Obj} (hp:p∈zhb fp h):p.1∈fp/\h.get? p.1=some p.2:=by
 obtain ⟨b,hb,e⟩:=List.mem_filterMap.mp hp
 cases q:h.get? b with
 | none=>rw[q] at e;cases e
 | some o=>
  rw[q] at e;have e':(b,o)=p:=Option.some.inj e;subst e';exact ⟨hb,q⟩
theorem Inv.pinned {pins:List (Addr×Obj)} {σ:St} {H:Hp} {s:Shared} {fp:List Addr} (I:Inv X pins σ H s) (hf:∀b∈fp,FpOk X pins H b) (ho:∀b∈fp,∃o,s.heap.get? b=some o/\∀v,o.data≠.cell v):Inv X (pins++zhb fp s.heap) σ H s:=
 I.pins_of fun p hp=>(List.mem_append.mp hp).elim (fun z=>I.pin p (List.mem_append_right _ z)) fun z=>by
  obtain ⟨hb,e⟩:=zlX z;obtain ⟨f0,f1,f2,_⟩:=hf p.1 hb;obtain ⟨o,e',d⟩:=ho p.1 hb;rw[e] at e';cases e';exact ⟨e,f0,f1,f2,d⟩
theorem Inv.unpinned {pins pl:List (Addr×Obj)} {σ:St} {H:Hp} {s:Shared} (I:Inv X (pins++pl) σ H s):Inv X pins σ H s:=I.pins_of fun p hp=>I.pin p (List.mem_append_right _ (List.mem_append_left _ hp))
theorem zlB {iter:Expr} {body:List Stmt} {wi:TI} {g:TG} {tb:TS} {pos:Pos} (hp:PassesOwn (model X.prog X.w) X.A X.env X.xe) (hc:X.calm=true) (hi:PI X tg iter wi) (hg:PG X tg g) (hb:PSs X body tb)
  (hs:∀x,foldedSetIterable iter X.env x=pure x:=by intro _;rfl):PS X (.For tg iter body [] pos) (tFor wi g tb):=by
 intro pins s σ H D I h;refine wpAny_For (thn (hi pins s σ H _ I h) fun v s1 h1=>thn h1 fun itv s2 h2=>?_) hs;obtain ⟨it,fp,tn,J,H2,e,I2,T,st2,f2,W,⟨m0,w0⟩,turn⟩:=h2;subst e
 -- what stays true of the iterator's objects through the loop
 have stat:∀{H':Hp},(∀b∈fp,H' b=none)->∀b∈fp,FpOk X pins H' b:=fun hn b hb=>⟨hn b hb,(f2 b hb).2⟩
 refine codeAny_forLoop_any (fun n s'=>∃i σ' H',Inv X pins σ' H' s'/\tn i s'.heap/\(∀b∈fp,H' b=none)/\W i n σ' H') ?_ m0 ⟨0,σ,H2,I2,st2,fun b hb=>(f2 b hb).1,w0⟩
 rintro n s3 ⟨i,σ3,H3,I3,st3,fr3,w3⟩
 rcases turn i n σ3 H3 w3 with ⟨stop,qn⟩ | ⟨go,N,hN,step⟩
 .refine wpAny_passesOwn hp (thn (T.done X rfl rfl rfl hc i pins s3 σ3 H3 X.xe I3 (stat fr3) st3 stop) fun r s4 hx__=>?_);obtain ⟨hr,I4⟩:=hx__;subst hr;exact wpAny_execs_nil ⟨σ3,H3,I4,qn⟩
 .refine wpAny_passesOwn hp (thn (T.item X rfl rfl rfl hc i pins s3 σ3 H3 X.xe I3 (stat fr3) st3 go) fun r s4 hx__=>?_);obtain ⟨u,hr,h4⟩:=hx__;subst hr;refine wpAny_passesOwn hp (thn h4 fun _ s5 hx__=>?_);obtain ⟨x,H5,I5,r5,y5,st5,fr5⟩:=hx__;have I5':=I5.pinned (stat fr5) (T.obj _ _ st5);refine wpAny_passesOwn hp (thn (hg _ s5 σ3 H5 x u _ I5' r5 (step x H5 y5)) fun _ s6 hx__=>?_);obtain ⟨σ6,H6,I6,q6⟩:=hx__;refine wpAny_passesOwn hp (thn (hb _ s6 σ6 H6 _ I6 q6) fun f s7 q7=>?_);have again:∀{σ7:St} {H7:Hp},Inv X (pins++zhb fp s5.heap) σ7 H7 s7->N σ7 H7->∃m,m < n/\∃i σ' H',Inv X pins σ' H' s7/\tn i s7.heap/\(∀b∈fp,H' b=none)/\W i m σ' H':=fun {σ7 H7} I7 n7=>by
   obtain ⟨m',hm,w7⟩:=hN σ7 H7 n7;refine ⟨m',hm,i+1,σ7,H7,I7.unpinned,T.keep _ _ _ st5 fun b hb o e=>(I7.pin (b,o) (List.mem_append_right _ (List.mem_append_right _ (zeR hb e)))).1,fun b hb=>?_,w7⟩;obtain ⟨o,e,d⟩:=T.obj _ _ st5 b hb;exact (I7.pin (b,o) (List.mem_append_right _ (List.mem_append_right _ (zeR hb e)))).2.1
  cases f with
  | next=>obtain ⟨σ7,H7,I7,n7⟩:=q7;exact again I7 n7
  | cont=>obtain ⟨σ7,H7,I7,n7⟩:=q7;exact again I7 n7
  | brk=>obtain ⟨σ7,H7,I7,q7⟩:=q7;exact ⟨σ7,H7,I7.unpinned,q7⟩
  | ret v=>obtain ⟨x7,σ7,H7,I7,r7,q7⟩:=q7;exact ⟨x7,σ7,H7,I7.unpinned,r7,q7⟩
end
abbrev R2:=V->V->Hp->VK->Prop
def OpR (X:Cx) (f:Value->Value->Sem Value) (r:R2):Prop:=
 ∀(pins:List (Addr×Obj)) (s:Shared) (σ:St) (H:Hp) (x y:V) (v u:Value) (Q:VK),Inv X pins σ H s->RelV x v->RelV y u->r x y H Q->
  wpAny (model X.prog X.w) X.A (f v u) (EP X pins σ Q) X.xe s
def UnR (X:Cx) (f:Value->Sem Value) (r:V->Hp->VK->Prop):Prop:=
 ∀(pins:List (Addr×Obj)) (s:Shared) (σ:St) (H:Hp) (x:V) (v:Value) (Q:VK),Inv X pins σ H s->RelV x v->r x H Q->
  wpAny (model X.prog X.w) X.A (f v) (EP X pins σ Q) X.xe s
def CallR (X:Cx) (f:Value) (r:List V->Hp->VK->Prop):Prop:=
 ∀(pins:List (Addr×Obj)) (s:Shared) (σ:St) (H:Hp) (xs:List V) (us:List Value) (Q:VK),Inv X pins σ H s->Vals xs us->r xs H Q->
  wpAny (model X.prog X.w) X.A (call f us) (EP X pins σ Q) X.xe s
def TruR (X:Cx) (r:V->Hp->(Bool->Hp->Prop)->Prop):Prop:=
 ∀(pins:List (Addr×Obj)) (s:Shared) (σ:St) (H:Hp) (x:V) (v:Value) (Q:Bool->Hp->Prop),Inv X pins σ H s->RelV x v->r x H Q->
  wpAny (model X.prog X.w) X.A (truthy v) (TP X pins σ Q) X.xe s
def tOp (r:R2) (ta tb:TE):TE:=fun σ H Q=>ta σ H fun x H1=>tb σ H1 fun y H2=>r x y H2 Q
def tUn (r:V->Hp->VK->Prop) (ta:TE):TE:=fun σ H Q=>ta σ H fun x H1=>r x H1 Q
def rI (C:Int->Int->Prop) (g:Int->Int->V):R2:=fun x y H Q=>∃i j,x=.int i/\y=.int j/\C i j/\Q (g i j) H
def rI0 (g:Int->Int->V):R2:=fun x y H Q=>∃i j,x=.int i/\y=.int j/\Q (g i j) H
def rU (g:Int->V):V->Hp->VK->Prop:=fun x H Q=>∃i,x=.int i/\Q (g i) H
section
variable {X:Cx} {a b c:Expr} {ta tb tc:TE} {pos:Pos}
theorem binT (ha:PE X a ta) (hb:PE X b tb) {pins:List (Addr×Obj)} {s:Shared} {σ:St} {H:Hp} {R:V->V->Hp->Prop} (I:Inv X pins σ H s)
  (h:ta σ H fun x H1=>tb σ H1 fun y H2=>R x y H2) {Q:Value->Shared->Prop} {f:Value->Value->Sem Value}
  (hf:∀v u s2 x y H2,Inv X pins σ H2 s2->RelV x v->RelV y u->R x y H2->wpAny (model X.prog X.w) X.A (f v u) Q X.xe s2) :
  wpAny (model X.prog X.w) X.A (eval a X.env) (fun v s₁=>wpAny (model X.prog X.w) X.A (eval b X.env) (fun u s₂=>wpAny (model X.prog X.w) X.A (f v u) Q X.xe s₂) X.xe s₁) X.xe s:=by
 refine thn (ha pins s σ H _ I h) fun v s1 hx__=>?_
 obtain ⟨x,H1,I1,r1,q1⟩:=hx__;refine thn (hb pins s1 σ H1 _ I1 q1) fun u s2 hx__=>?_
 obtain ⟨y,H2,I2,r2,q2⟩:=hx__;exact hf v u s2 x y H2 I2 r1 r2 q2
theorem ztq {op:Operator} {r:R2} (ho:OpR X (binaryOp op) r) (ha:PE X a ta) (hb:PE X b tb):PE X (.BinOp a op b pos) (tOp r ta tb):=by
 intro pins s σ H Q I h;exact wpAny_BinOp (binT ha hb I h fun v u s2 x y H2 I2 rx ry q=>ho pins s2 σ H2 x y v u Q I2 rx ry q)
theorem zqO {op:UnaryOp} {r:V->Hp->VK->Prop} (ho:UnR X (unaryOp op) r) (ha:PE X a ta):PE X (.UnaryOp op a pos) (tUn r ta):=by
 intro pins s σ H Q I h;exact UnaryOp_ (thn (ha pins s σ H _ I h) fun v s1 ⟨x,H1,I1,r1,q1⟩=>ho pins s1 σ H1 x v Q I1 r1 q1)
theorem opI {f:Value->Value->Sem Value} {C:Int->Int->Prop} {g:Int->Int->Int}
  (rule:∀(i j:Int) (t u:Tok) (s:Shared) (Q:Value->Shared->Prop) (E:Value->Shared->Prop),C i j->Q (.int (g i j) s.toks) { s with toks:=s.toks+1 }->wpAny (model X.prog X.w) X.A (f (.int i t) (.int j u)) Q E s) :
  OpR X f (rI C fun i j=>.int (g i j)):=by
 intro pins s σ H x y v u Q I rx ry h;obtain ⟨i,j,rfl,rfl,hc,q⟩:=h;obtain ⟨t,rfl⟩:=rx;obtain ⟨t',rfl⟩:=ry;exact rule i j t t' s _ _ hc ⟨.int (g i j),H,I.tok _,⟨_,rfl⟩,q⟩
theorem opI0 {f:Value->Value->Sem Value} {g:Int->Int->Int}
  (rule:∀(i j:Int) (t u:Tok) (s:Shared) (Q:Value->Shared->Prop) (E:Value->Shared->Prop),Q (.int (g i j) s.toks) { s with toks:=s.toks+1 }->wpAny (model X.prog X.w) X.A (f (.int i t) (.int j u)) Q E s) :
  OpR X f (rI0 fun i j=>.int (g i j)):=by
 intro pins s σ H x y v u Q I rx ry h;obtain ⟨i,j,rfl,rfl,q⟩:=h;obtain ⟨t,rfl⟩:=rx;obtain ⟨t',rfl⟩:=ry;exact rule i j t t' s _ _ ⟨.int (g i j),H,I.tok _,⟨_,rfl⟩,q⟩
theorem opB0 {f:Value->Value->Sem Value} {g:Int->Int->Bool}
  (rule:∀(i j:Int) (t u:Tok) (s:Shared) (Q:Value->Shared->Prop) (E:Value->Shared->Prop),Q (.bool (g i j)) s->wpAny (model X.prog X.w) X.A (f (.int i t) (.int j u)) Q E s) :
  OpR X f (rI0 fun i j=>.bl (g i j)):=by
 intro pins s σ H x y v u Q I rx ry h;obtain ⟨i,j,rfl,rfl,q⟩:=h;obtain ⟨t,rfl⟩:=rx;obtain ⟨t',rfl⟩:=ry;exact rule i j t t' s _ _ ⟨.bl (g i j),H,I,rfl,q⟩
def CPow (i j:Int):Prop:=0<=j/\j<=1000000/\i.natAbs < 2 ^ 64
def CMul (i j:Int):Prop:=(-(2 ^ 64) < i/\i < 2 ^ 64)\/(-(2 ^ 64) < j/\j < 2 ^ 64)
theorem CMul.ok {i j:Int} (h:CMul i j):IntMulOk i j:=by
 rcases h with ⟨h1,h2⟩ | ⟨h1,h2⟩
 .exact .of_left (intBits_le_64 h1 h2)
 .exact .of_right (intBits_le_64 h1 h2)
theorem op_add:OpR X (binaryOp .Add) (rI0 fun i j=>.int (i+j)):=opI0 fun _ _ _ _ _ _ _ q=>add_int q
theorem zqp:OpR X (binaryOp .Sub) (rI0 fun i j=>.int (i - j)):=opI0 fun _ _ _ _ _ _ _ q=>sub_int q
theorem op_mul:OpR X (binaryOp .Mult) (rI CMul fun i j=>.int (i * j)):=opI fun _ _ _ _ _ _ _ hc q=>mul_int q hc.ok
theorem zqJ:OpR X (binaryOp .Mod) (rI (fun _ j=>0 < j) fun i j=>.int (i % j)):=opI fun i j _ _ _ _ _ hc q=>by
 have h1:(0:Int) < j:=hc;exact mod_int' (by omega) (by rw[Int.fmod_eq_emod_of_nonneg i (by omega)];exact q)
theorem zrA:OpR X (binaryOp .Pow) (rI CPow fun i j=>.int (i ^ j.toNat)):=opI fun _ _ _ _ _ _ _ hc q=>pow_int_small hc.1 hc.2.1 hc.2.2 q
theorem unI {f:Value->Sem Value} {g:Int->Int}
  (rule:∀(i:Int) (t:Tok) (s:Shared) (Q:Value->Shared->Prop) (E:Value->Shared->Prop),Q (.int (g i) s.toks) { s with toks:=s.toks+1 }->wpAny (model X.prog X.w) X.A (f (.int i t)) Q E s) :
  UnR X f (rU fun i=>.int (g i)):=by
 intro pins s σ H x v Q I rx h;obtain ⟨i,rfl,q⟩:=h;obtain ⟨t,rfl⟩:=rx;exact rule i t s _ _ ⟨.int (g i),H,I.tok _,⟨_,rfl⟩,q⟩
theorem un_neg:UnR X (unaryOp .USub) (rU fun i=>.int (-i)):=unI fun _ _ _ _ _ q=>neg_int q
end
section
variable {X:Cx} {a b c:Expr} {ta tb tc:TE} {pos:Pos}
theorem znw {pins:List (Addr×Obj)} {σ:St} {H:Hp} {s:Shared} {Q:VK} {k k':Bool} (I:Inv X pins σ H s) (q:Q (.bl k) H) (e:k=k'):EP X pins σ Q (.bool k') s:=by
 subst e;exact ⟨.bl k,H,I,rfl,q⟩
theorem zmP:OpR X (compareOp .Lt) (rI0 fun i j=>.bl (decide (i < j))):=opB0 fun _ _ _ _ _ _ _ q=>lt_int q
theorem zhr:OpR X (compareOp .LtE) (rI0 fun i j=>.bl (decide (i<=j))):=opB0 fun _ _ _ _ _ _ _ q=>le_int q
theorem ztf:OpR X (compareOp .Gt) (rI0 fun i j=>.bl (decide (j < i))):=opB0 fun _ _ _ _ _ _ _ q=>gt_int q
theorem op_isN:OpR X (compareOp .Is) (fun x y H Q=>y=.non/\Q (.bl (decide (x=.non))) H):=by
 intro pins s σ H x y v u Q I rx ry h;obtain ⟨rfl,q⟩:=h;cases ry;refine is_none_gen (znw I q ?_)
 cases x<;>first
  | (cases rx;rfl)
  | (obtain ⟨t,rfl⟩:=rx;rfl)
theorem op_notN:OpR X (compareOp .IsNot) (fun x y H Q=>y=.non/\Q (.bl (!decide (x=.non))) H):=by
 intro pins s σ H x y v u Q I rx ry h;obtain ⟨rfl,q⟩:=h;cases ry;refine isnot_none_gen (znw I q ?_)
 cases x<;>first
  | (cases rx;rfl)
  | (obtain ⟨t,rfl⟩:=rx;rfl)
theorem OpR.or {f:Value->Value->Sem Value} {r r':R2} (h:OpR X f r) (h':OpR X f r'):OpR X f (fun x y H Q=>r x y H Q\/r' x y H Q):=by
 intro pins s σ H x y v u Q I rx ry q;rcases q with q | q
 .exact h pins s σ H x y v u Q I rx ry q
 .exact h' pins s σ H x y v u Q I rx ry q
theorem za9 (b:Expr) {op:CmpOp} (h:op≠.In:=by decide) (h2:op≠.NotIn:=by decide):behindInMarks op b=false:=by
 have e1:(op==CmpOp.In)=false:=by cases op<;>first | rfl | exact absurd rfl h
 have e2:(op==CmpOp.NotIn)=false:=by cases op<;>first | rfl | exact absurd rfl h2
 cases b<;>simp[behindInMarks,e1,e2]
theorem zoD {op:CmpOp} {r:R2} (ho:OpR X (compareOp op) r) (ha:PE X a ta) (hb:PE X b tb) (hm:behindInMarks op b=false):PE X (.Compare a [op] [b] pos) (tOp r ta tb):=by
 intro pins s σ H Q I h;exact wpAny_Compare1 (binT ha hb I h fun v u s2 x y H2 I2 rx ry q=>ho pins s2 σ H2 x y v u Q I2 rx ry q) hm
def zrI (t:TE):TT:=fun σ H Q=>t σ H fun x H'=>∃k,x=.bl k/\Q k H'
theorem zo0 {op:CmpOp} {r:R2} (ho:OpR X (compareOp op) r) (ha:PE X a ta) (hb:PE X b tb) (hm:behindInMarks op b=false):PT X (.Compare a [op] [b] pos) (zrI (tOp r ta tb)):=by
 intro pins s σ H Q I h;refine wpAny_isTrue_Compare1 (thn (ha pins s σ H _ I h) fun v s1 w1=>?_) hm;obtain ⟨x,H1,I1,r1,q1⟩:=w1;refine thn (hb pins s1 σ H1 _ I1 q1) fun u s2 w2=>?_
 obtain ⟨y,H2,I2,r2,q2⟩:=w2;refine thn (ho pins s2 σ H2 x y v u _ I2 r1 r2 q2) fun c s3 w3=>?_
 obtain ⟨z,H3,I3,r3,k,e,q3⟩:=w3;subst e;cases r3;exact wpAny_truthy_bool ⟨H3,I3,q3⟩
def zl8 (r r':R2) (ta tb tc:TE):TE:=fun σ H Q=>ta σ H fun x H1=>tb σ H1 fun y H2=>r x y H2 fun z H3=>∃k,z=.bl k/\
 (if k=true then tc σ H3 fun w' H4=>r' y w' H4 Q else Q (.bl false) H3)
theorem zmg {op op':CmpOp} {r r':R2} (ho:OpR X (compareOp op) r) (ho':OpR X (compareOp op') r') (ha:PE X a ta) (hb:PE X b tb) (hc:PE X c tc)
  (hm:lastMarks [op,op'] [b,c]=false:=by with_unfolding_all rfl):PE X (.Compare a [op,op'] [b,c] pos) (zl8 r r' ta tb tc):=by
 intro pins s σ H Q I h;refine Compare_chain (thn (ha pins s σ H _ I h) fun v s1 w1=>?_) hm;obtain ⟨x,H1,I1,r1,q1⟩:=w1;refine chain_link (thn (hb pins s1 σ H1 _ I1 q1) fun u s2 w2=>?_);obtain ⟨y,H2,I2,r2,q2⟩:=w2;refine thn (ho pins s2 σ H2 x y v u _ I2 r1 r2 q2) fun d s3 w3=>?_
 obtain ⟨z,H3,I3,r3,k,e,q3⟩:=w3;subst e;cases r3;refine wpAny_truthy_bool ?_
 cases k with
 | false=>exact ite_ff ⟨.bl false,H3,I3,rfl,q3⟩
 | true=>exact ite_tt (chain_last (thn (hc pins s3 σ H3 _ I3 q3) fun w' s4 ⟨z',H4,I4,r4,q4⟩=>ho' pins s4 σ H4 y z' u w' Q I4 r2 r4 q4))
theorem zna {op op':CmpOp} {r r':R2} (ho:OpR X (compareOp op) r) (ho':OpR X (compareOp op') r') (ha:PE X a ta) (hb:PE X b tb) (hc:PE X c tc)
  (hm:lastMarks [op,op'] [b,c]=false:=by with_unfolding_all rfl):PT X (.Compare a [op,op'] [b,c] pos) (zrI (zl8 r r' ta tb tc)):=by
 intro pins s σ H Q I h;refine isTrue_chain (thn (ha pins s σ H _ I h) fun v s1 w1=>?_) hm;obtain ⟨x,H1,I1,r1,q1⟩:=w1;refine test_link (thn (hb pins s1 σ H1 _ I1 q1) fun u s2 w2=>?_);obtain ⟨y,H2,I2,r2,q2⟩:=w2;refine thn (ho pins s2 σ H2 x y v u _ I2 r1 r2 q2) fun d s3 w3=>?_
 obtain ⟨z,H3,I3,r3,k,e,q3⟩:=w3;subst e;cases r3;refine wpAny_truthy_bool ?_
 cases k with
 | false=>
  obtain ⟨k',e',q'⟩:=q3
  cases e'
  exact ite_ff ⟨H3,I3,q'⟩
 | true=>
  refine ite_tt (test_last (thn (hc pins s3 σ H3 _ I3 q3) fun w' s4 ⟨z',H4,I4,r4,q4⟩=>thn (ho' pins s4 σ H4 y z' u w' _ I4 r2 r4 q4) fun d' s5 hx__=>?_));obtain ⟨z2,H5,I5,r5,k2,e2,q5⟩:=hx__;subst e2;cases r5;exact wpAny_truthy_bool ⟨H5,I5,q5⟩
def TruV (K:PySem.W.Frag) (x:V) (H:Hp) (k:Bool):Prop:=
 match x with
 | .non=>k=false
 | .bl b=>k=b
 | .int i=>k=(i != 0)
 | .str y=>y.length<=sizeLine/\k=((y.length:Int) != 0)
 | .byt y=>y.size<=sizeLine/\k=((y.size:Int) != 0)
 | .ref p=>(∃xs,SqL K H p xs/\k=!xs.isEmpty)\/(∃xs,SqT K H p xs/\k=!xs.isEmpty)\/∃kvs,H p=some (.dK kvs)/\k=!kvs.isEmpty
 | _=>False
theorem zkx {κ:Type} {kvs:List (κ×V)} {vs:List (κ×Value)} (r:KV kvs vs):(!vs.isEmpty)=!kvs.isEmpty:=by
 cases r<;>rfl
theorem zg4 {xs:List V} {its:List Value} (r:Vals xs its):(!its.toArray.isEmpty)=!xs.isEmpty:=by
 cases r<;>simp
theorem zgY:(sizeLine:Nat) < 2 ^ 63:=by rw[sizeLine_eq];decide
theorem zrh:TruR X (fun x H Q=>∃k,TruV X.K x H k/\Q k H):=by
 intro pins s σ H x v Q I rx h;obtain ⟨k,e,q⟩:=h;have hl:=zgY;have hs:sizeLine=16777216:=sizeLine_eq
 cases x with
 | non=>
  cases rx;have e':k=false:=e;subst e';exact truthy_none ⟨H,I,q⟩
 | bl b=>
  cases rx;have e':k=b:=e;subst e';exact wpAny_truthy_bool ⟨H,I,q⟩
 | int i=>
  obtain ⟨t,rfl⟩:=rx;have e':k=(i != 0):=e;subst e';exact PySem.P.truthy_int ⟨H,I,q⟩
 | str y=>
  obtain ⟨t,rfl⟩:=rx;obtain ⟨hy,e'⟩:y.length<=sizeLine/\k=((y.length:Int) != 0):=e;subst e';exact PySem.P.truthy_str (by omega) ⟨H,I.tok _,q⟩
 | byt y=>
  obtain ⟨t,rfl⟩:=rx;obtain ⟨hy,e'⟩:y.size<=sizeLine/\k=((y.size:Int) != 0):=e;subst e';exact PySem.W.truthy_bytes (by omega) ⟨H,I.tok _,q⟩
 | ref p=>
  cases rx;have e':(∃xs,SqL X.K H p xs/\k=!xs.isEmpty)\/(∃xs,SqT X.K H p xs/\k=!xs.isEmpty)\/∃kvs,H p=some (.dK kvs)/\k=!kvs.isEmpty:=e;rcases e' with ⟨xs,hx,e'⟩ | ⟨xs,hx,e'⟩ | ⟨kvs,hx,e'⟩
  .subst e';obtain ⟨its,r,pl,hz⟩:=I.list hx;have hlen:=r.length;exact wpAny_truthy_list pl.isList (by simp only[List.size_toArray];omega) ⟨H,I.tok _,by rw[zg4 r];exact q⟩
  .subst e';obtain ⟨its,r,pl,hz⟩:=I.tuple hx;have hlen:=r.length;exact truthy_tuple pl (by simp only[List.size_toArray];omega) ⟨H,I.tok _,by rw[zg4 r];exact q⟩
  .subst e';obtain ⟨hz,hS,vs,r,m⟩:kvs.length<=sizeLine/\(p==sysModules)=false/\∃vs,KV kvs vs/\s.heap.DictOf (zjq X.prog X.w) p vs:=I.hok p _ hx;have hlen:kvs.length=vs.length:=Paired.length r;exact wpAny_truthy_dict hS m (by omega) ⟨H,I.tok _,by rw[zkx r];exact q⟩
 | _=>exact (show False from e).elim
theorem zmt (ha:PE X a ta) (he:∀whole,isTrue a X.env whole=(do let v <-whole;standAt a.pos;holding [v] (truthy v))) :
  PT X a (fun σ H Q=>ta σ H fun x H'=>∃k,TruV X.K x H' k/\Q k H'):=by
 intro pins s σ H Q I h;exact isTrue_plain (thn (ha pins s σ H _ I h) fun v s1 ⟨x,H1,I1,r1,q1⟩=>zrh pins s1 σ H1 x v Q I1 r1 q1) (he _)
theorem zjk {x:V} {us:List Value} (r:Vals [x] us):∃u,us=[u]/\RelV x u:=by
 cases r with
 | cons r1 r2=>cases r2;exact ⟨_,rfl,r1⟩
theorem zqw {x y:V} {us:List Value} (r:Vals [x,y] us):∃u w',us=[u,w']/\RelV x u/\RelV y w':=by
 cases r with
 | cons r1 r2=>
  cases r2 with
  | cons r3 r4=>cases r4;exact ⟨_,_,rfl,r1,r3⟩
theorem zlL (hc:X.calm=true):CallR X (.builtin "max") (fun xs H Q=>∃i j,xs=[.int i,.int j]/\Q (.int (if j > i then j else i)) H):=by
 intro pins s σ H xs us Q I r h;obtain ⟨i,j,rfl,q⟩:=h;obtain ⟨u,w',rfl,⟨t,rfl⟩,⟨t',rfl⟩⟩:=zqw r;refine max_two_ints (I.ok.hd hc) fun h' tk k=>⟨_,H,I.kept k, ?_,q⟩
 by_cases hj:j > i
 .rw[if_pos hj,if_pos hj];exact ⟨_,rfl⟩
 .rw[if_neg hj,if_neg hj];exact ⟨_,rfl⟩
theorem zlW:CallR X (.type "int") (fun xs H Q=>(∃i,xs=[.int i]/\Q (.int i) H)\/∃k,xs=[.bl k]/\Q (.int (if k then 1 else 0)) H):=by
 intro pins s σ H xs us Q I r h;rcases h with ⟨i,rfl,q⟩ | ⟨k,rfl,q⟩
 .obtain ⟨u,rfl,t,rfl⟩:=zjk r;exact call_int_int ⟨.int i,H,I,⟨_,rfl⟩,q⟩
 .obtain ⟨u,rfl,r1⟩:=zjk r;cases r1;exact call_int_bool ⟨.int (if k then 1 else 0),H,I.tok _,⟨_,rfl⟩,q⟩
end
section
variable {prog:Program} {w:World} {A:Around} {E:Value->Shared->Prop} {s:Shared} {K:PySem.W.Frag} {x dx C f:Addr} {mA:Str->Option Value} {name:Str} {v:Value}
end
section
variable {P:Program} {w:World} {H H':Hp} {h h':Heap} {a C dx:Addr} {fs fs':List (Str×V)}
end
section
variable {X:Cx} {pins:List (Addr×Obj)} {σ:St} {H:Hp} {s:Shared} {a C dx:Addr} {fs:List (Str×V)} {f:Str} {v:V} {A:Around} {E:Value->Shared->Prop}
end
section
variable {X:Cx} {o e value:Expr} {f:Str} {pos pos' tpos:Pos} {ta tv:TE}
end
section
variable {X:Cx} {pins:List (Addr×Obj)} {σ:St} {H:Hp} {s:Shared} {A:Around} {E:Value->Shared->Prop} {Q:Value->Shared->Prop} {c:Value} {b:Bool}
end
structure Room (k:Nat) (A:Around):Prop where
 hd:A.handled=none
 dp:A.depth+3 * k+5 < recursionLimit
 un:A.units+16 * k+200 < cLine
theorem Room.mono {j k:Nat} {A:Around} (r:Room k A) (h:j<=k):Room j A:=⟨r.hd,by have:=r.dp;omega,by have:=r.un;omega⟩
theorem Room.deeper {k:Nat} {A:Around} (r:Room (k+1) A) (env:Env):Room k (A.deeper env):=
 ⟨r.hd,by have:=r.dp;show A.depth+1+3 * k+5 < _;omega,by have:=r.un;show A.units+3+16 * k+200 < _;omega⟩
theorem Room.depth {k:Nat} {A:Around} (r:Room k A):A.depth < recursionLimit:=by have:=r.dp;omega
theorem Room.units {k:Nat} {A:Around} (r:Room k A):A.units+64 < cLine:=by have:=r.un;omega
def tNil:TA:=fun _ H Q=>Q [] H
def zml (ta:TE) (tr:TA):TA:=fun σ H Q=>ta σ H fun x H1=>tr σ H1 fun xs H2=>Q (x::xs) H2
section
variable {X:Cx} {e:Expr} {es:List Expr} {te:TE} {t:TA} {pos:Pos}
theorem zdG:PA X [] tNil:=fun _ _ _ _ H Q I h=>Calls.spliced_nil ⟨[],H,I,.nil,h⟩
theorem zcL (ha:PE X e te) (hr:PA X es t) (hs:starEach (e::es) X.env=(false,eval e X.env)::starEach es X.env:=by rfl):PA X (e::es) (zml te t):=by
 intro pos pins s σ H Q I h;rw[hs]
 show wpAny _ _ (spliced ((false,eval e X.env)::backTo pos (starEach es X.env))) _ _ s
 refine Calls.spliced_cons (thn (ha pins s σ H _ I h) fun u s1 hx__=>?_);obtain ⟨x,H1,I1,r1,q1⟩:=hx__;exact thn (hr pos pins s1 σ H1 _ I1 q1) fun us s2 ⟨xs,H2,I2,r2,q2⟩=>⟨x::xs,H2,I2,.cons r1 r2,q2⟩
def tTup (t:TA):TE:=fun σ H Q=>t σ H fun xs H1=>xs.length<=sizeLine/\∀p,H1 p=none->Q (.ref p) (upd H1 p (.tup xs))
def tLst (t:TA):TE:=fun σ H Q=>t σ H fun xs H1=>xs.length<=sizeLine/\∀p,H1 p=none->Q (.ref p) (upd H1 p (.lst xs))
theorem zqM {x1} (h:PA X es t):PE X (.Tuple es x1 pos) (tTup t):=by
 intro pins s σ H Q I hq;refine wpAny_Tuple_spliced (thn (h pos pins s σ H _ I hq) fun us s1 ⟨xs,H1,I1,r,z,q⟩=>⟨by rw[<-r.length];exact z, ?_⟩);have hf:H1 s1.heap.objs.size=none:=I1.hok.fresh (Nat.le_refl _);refine ⟨.ref s1.heap.objs.size,upd H1 s1.heap.objs.size (.tup xs),I1.laid (t':=s1.toks) (fun b u e=>Heap.get?_push_of_some _ e) (Nat.le_refl _) ?_,rfl,q _ hf⟩;exact ⟨z,us,r,⟨_,Heap.get?_push_size _ rfl,rfl,_,rfl⟩⟩
theorem zqq (h:PA X es t):PE X (.List es pos) (tLst t):=by
 intro pins s σ H Q I hq;refine wpAny_List_spliced (thn (h pos pins s σ H _ I hq) fun us s1 ⟨xs,H1,I1,r,z,q⟩=>⟨by rw[<-r.length];exact z, ?_⟩);have hf:H1 s1.heap.objs.size=none:=I1.hok.fresh (Nat.le_refl _);refine ⟨.ref s1.heap.objs.size,upd H1 s1.heap.objs.size (.lst xs),I1.laid (t':=s1.toks) (fun b u e=>Heap.get?_push_of_some _ e) (Nat.le_refl _) ?_,rfl,q _ hf⟩;exact ⟨z,us,0,r,Heap.get?_push_size _ rfl⟩
end
abbrev Sp:=List V->Hp->VK->XK->Prop
abbrev CXT:=List Env->Hp->Shared->XK->Value->Shared->Prop
structure Env0 (P:Program) (w:World) (K:PySem.W.Frag) (mg:Str->Option Value) (base:Heap) (A:Around) (outer:List Env) (s:Shared) (H:Hp):Prop where
 frames:A.frames=some outer
 mod:Mod K mg base
 bs:∀b o,base.get? b=some o->s.heap.get? b=some o/\H b=none
 bsz:base.objs.size<=s.heap.objs.size
 funs:s.heap.FunFrames base outer
 frf:∀b∈frs outer,H b=none
 hok:HOk P w H s.heap
 bare:AllBare s.gens
def CE (outer:List Env) (P:Program) (w:World) (H:Hp) (s:Shared) (Q:VK) (u:Value) (s':Shared):Prop:=
 ∃v H',s'.os=s.os/\AllBare s'.gens/\Un (frs outer) [] H H' s.heap s'.heap/\HOk P w H' s'.heap/\RelV v u/\Q v H'
def CR (CX:CXT) (outer:List Env) (P:Program) (w:World) (H:Hp) (s:Shared) (Q:VK) (E:XK) (r:Result) (s':Shared):Prop:=
 match r with
 | .ok (.ret u)=>CE outer P w H s Q u s'
 | .ok _=>False
 | .error e=>CX outer H s E e s'
structure FnOk (P:Program) (w:World) (K:PySem.W.Frag) (mg:Str->Option Value) (base:Heap) (CX:CXT) (k:Nat) (f:Addr) (fd:FuncData) (ps:List Str) (sp:Sp):Prop where
 len:∀vs H Q E,sp vs H Q E->vs.length=ps.length
 run:∀(A:Around) (outer:List Env) (s:Shared) (H:Hp) (args:Args) (us:List Value) (vs:List V) (Q:VK) (E:XK),Room k A->Env0 P w K mg base A outer s H->BindsTo s fd args (ps.zip us)->Vals vs us->sp vs H Q E->
  codeAny (model P w) A (.call (.ref f) args) (CR CX outer P w H s Q E) s
section
variable {X:Cx} {pins:List (Addr×Obj)} {σ:St} {H:Hp} {s s':Shared}
theorem Inv.env0 (I:Inv X pins σ H s):Env0 X.prog X.w X.K X.mg X.base X.A X.stack s H:=
 ⟨I.ok.frames,I.ok.mod,I.bs,Nat.le_trans I.ok.bsz I.sz,I.stack,I.stkFree,I.hok,I.bare⟩
theorem Inv.after {Q:VK} {u:Value} (I:Inv X pins σ H s) (h:CE X.stack X.prog X.w H s Q u s'):EP X pins σ Q u s':=by
 obtain ⟨v,H',os,bare,un,hok,r,q⟩:=h;obtain ⟨hh,g,d,t,os'⟩:=s';obtain rfl:os'=s.os:=os;exact ⟨v,H',I.call (h':=hh) (g':=g) (d':=d) (t':=t) (ch:=[]) un hok bare (fun b z=>absurd z (by simp)),r,q⟩
end
def zqU (sp:Sp) (dvs:List V) (E:XK) (t:TA):TE:=fun σ H Q=>t σ H fun vs H1=>sp (vs++dvs) H1 Q E
def Binds (K:PySem.W.Frag) (fd:FuncData) (ps:List Str) (ds:List Value):Prop:=
 ∀(s:Shared) (us:List Value),K.In s.heap->(us++ds).length=ps.length->BindsTo s fd ⟨us,[]⟩ (ps.zip (us++ds))
theorem Binds.all {K:PySem.W.Frag} {fd:FuncData} {ps:List Str} (h:∀us:List Value,us.length=ps.length->bindArgs fd ⟨us,[]⟩=pure (ps.zip us)):Binds K fd ps []:=fun s us _ hl=>by
 rw[List.append_nil] at hl ⊢;exact .of_eq (h us hl)
def zhZ (CX:CXT) (X:Cx) (E:XK):Prop:=∀(pins:List (Addr×Obj)) (σ:St) (H:Hp) (s:Shared) (e:Value) (s':Shared),Inv X pins σ H s->CX X.stack H s E e s'->X.xe e s'
section
variable {X:Cx} {CX:CXT} {k:Nat} {f C:Addr} {fd:FuncData} {ps:List Str} {sp:Sp} {dvs:List V} {ds:List Value} {E:XK} {x m:Str} {p pos apos:Pos} {e o:Expr} {es:List Expr} {ta:TE} {t:TA}
theorem zrj {pins:List (Addr×Obj)} {σ:St} {H:Hp} {s:Shared} {Q:VK} {us:List Value} {vs:List V} (F:FnOk X.prog X.w X.K X.mg X.base CX k f fd ps sp) (hr:Room k X.A) (hb:Binds X.K fd ps ds) (hd:Vals dvs ds) (hx:zhZ CX X E)
  (I:Inv X pins σ H s) (r:Vals vs us) (h:sp (vs++dvs) H Q E):wpAny (model X.prog X.w) X.A (call (.ref f) us) (EP X pins σ Q) X.xe s:=by
 have r2:Vals (vs++dvs) (us++ds):=r.append hd;have hl:(us++ds).length=ps.length:=by rw[<-r2.length];exact F.len _ _ _ _ h
 refine wpAny_call (codeAny_mono (F.run X.A X.stack s H ⟨us,[]⟩ (us++ds) (vs++dvs) Q E hr I.env0 (hb s us I.kIn hl) r2 h) fun r s' hq=>?_)
 cases r with
 | error e=>exact hx pins σ H s e s' I hq
 | ok fl=>
  cases fl with
  | ret u=>exact I.after hq
  | next=>exact False.elim hq
  | brk=>exact False.elim hq
  | cont=>exact False.elim hq
theorem zoo (F:FnOk X.prog X.w X.K X.mg X.base CX k f fd ps sp) (hr:Room k X.A) (hg:Gl X x) (hm:X.mg x=some (.ref f)) (hk:PySem.W.keepIn X.K (.ref f)=true) (hb:Binds X.K fd ps ds) (hd:Vals dvs ds) (hx:zhZ CX X E)
  (ha:PA X (e::es) t) (hdb:(x==("__debug__":Str))=false:=by decide) (he:starEach (e::es) X.env=(false,eval e X.env)::starEach es X.env:=by rfl) (hpl:(backTo pos (starEach es X.env)).any (·.1)=false:=by rfl) :
  PE X (.Call (.Name x p) (e::es) [] pos) (zqU sp dvs E t):=by
 intro pins s σ H Q I h;refine wpAny_Call_Name_kw (zlU I hg hm ?_ hdb);refine PySem.W.callWith_K (h₀:=X.base) I.ok.mod.kin hk (thn (ha pos pins s σ H _ I h) fun us s1 ⟨vs,H1,I1,r,q⟩=>⟨I1.kIn, ?_⟩) he hpl;exact zrj F hr hb hd hx I1 r q
end
section
variable {X:Cx} {CX:CXT} {k:Nat} {f C:Addr} {fd:FuncData} {ps ks:List Str} {sp:Sp} {E:XK} {x m:Str} {p pos apos kpos:Pos} {e o:Expr} {es:List Expr} {kws:List Keyword} {te ta:TE} {t tk:TA} {nm:Option Str}
variable {g:List Value->List Value->List Value} {gV:List V->List V->List V}
end
structure zay (N P:List Str) (sc:Scope):Prop where
 kind:sc.kind=.function
 co:sc.isCoroutine=false
 gen:sc.isGenerator=false
 nd:N.Nodup
 pre:N.take P.length=P
 par:∀x∈P,sc.names.lookup x=some .local\/sc.names.lookup x=some .cell
 nofree:∀y∈sc.names,y.2≠.free
theorem ziM {kindOf:Str->Option NameKind} {x:Str}:∀{binds:List (Str×Value)} {m:Str->Option Value},(∀v,(x,v)∉binds)->bindL kindOf binds m x=m x
 | [],_,_=>rfl
 | (n,v)::r,m,h=>by
  unfold bindL;rw[ziM fun w hw=>h w (List.mem_cons_of_mem _ hw)];split
  .have:x≠n:=by rintro rfl;exact h v List.mem_cons_self
   simp[this]
  .rfl
theorem zif {kindOf:Str->Option NameKind} {x:Str}:∀{binds:List (Str×Value)} {m:Str->Option Value},(∀v,(x,v)∉binds)->bindC kindOf binds m x=m x
 | [],_,_=>rfl
 | (n,v)::r,m,h=>by
  unfold bindC;rw[zif fun w hw=>h w (List.mem_cons_of_mem _ hw)];split
  .rfl
  .have:x≠n:=by rintro rfl;exact h v List.mem_cons_self
   simp[this]
theorem zid {kindOf:Str->Option NameKind} {x:Str} {v:Value}:∀{P:List Str} {vs:List Value} {i:Nat} {m:Str->Option Value},P.Nodup->P[i]? = some x->vs[i]? = some v->kindOf x=some .local->
  bindL kindOf (P.zip vs) m x=some v
 | [],_,_,_,_,h,_,_=>by simp at h
 | _::_,[],_,_,_,_,h,_=>by simp at h
 | p::P,w::vs,0,m,nd,h1,h2,hk=>by
  simp at h1 h2;subst h1;subst h2
  show bindL kindOf ((p,w)::P.zip vs) m p=_
  unfold bindL;rw[ziM fun v hv=>(List.nodup_cons.mp nd).1 (List.of_mem_zip hv).1,if_pos hk];simp
 | p::P,w::vs,i+1,m,nd,h1,h2,hk=>by
  show bindL kindOf ((p,w)::P.zip vs) m x=_
  unfold bindL;exact zid (i:=i) (List.nodup_cons.mp nd).2 (by simpa using h1) (by simpa using h2) hk
theorem zhS {kindOf:Str->Option NameKind} {x:Str} {v:Value}:∀{P:List Str} {vs:List Value} {i:Nat} {m:Str->Option Value},P.Nodup->P[i]? = some x->vs[i]? = some v->kindOf x≠some .local->
  bindC kindOf (P.zip vs) m x=some v
 | [],_,_,_,_,h,_,_=>by simp at h
 | _::_,[],_,_,_,_,h,_=>by simp at h
 | p::P,w::vs,0,m,nd,h1,h2,hk=>by
  simp at h1 h2;subst h1;subst h2
  show bindC kindOf ((p,w)::P.zip vs) m p=_
  unfold bindC;rw[zif fun v hv=>(List.nodup_cons.mp nd).1 (List.of_mem_zip hv).1,if_neg hk];simp
 | p::P,w::vs,i+1,m,nd,h1,h2,hk=>by
  show bindC kindOf ((p,w)::P.zip vs) m x=_
  unfold bindC;exact zhS (i:=i) (List.nodup_cons.mp nd).2 (by simpa using h1) (by simpa using h2) hk
def start (N:List Str) (vs:List V):St:=vs.map some++List.replicate (N.length - vs.length) none
def cxOf (CX:CXT) (P:Program) (w:World) (K:PySem.W.Frag) (mg:Str->Option Value) (base:Heap) (N:List Str) (qual:Str) (scope:Scope) (f:Addr) (cd:Value) (A:Around) (outer:List Env) (s:Shared) (H:Hp) (E:XK):Cx where
 prog:=P
 w:=w
 K:=K
 mg:=mg
 base:=base
 A:=A.deeper (envOfC qual scope s.heap.objs.size f cd)
 N:=N
 s₀:=s
 H₀:=H
 env:=envOfC qual scope s.heap.objs.size f cd
 outer:=outer
 stack:=envOfC qual scope s.heap.objs.size f cd::outer
 ex:=[]
 calm:=true
 fn:=fun _=>true
 pn:=[]
 xe:=fun e s'=>wpAny (model P w) (A.deeper (envOfC qual scope s.heap.objs.size f cd)) (leaving (envOfC qual scope s.heap.objs.size f cd) e) (fun _ s''=>CX outer H s E e s'') (fun e' s''=>CX outer H s E e' s'') s'
theorem zj5 {sc:Scope} {n:Nat} {x:Str} (h:sc.names.lookup x=some .cell):∃c,(cellsFrom n sc.names []).lookup x=some c:=by
 have q:=PySem.W.cellsFrom_some sc.names n [] (.inl h);exact Option.isSome_iff_exists.mp q
theorem zlR {CX:CXT} {P:Program} {w:World} {K:PySem.W.Frag} {mg:Str->Option Value} {base:Heap} {N ps:List Str} {qual:Str} {scope:Scope} {f:Addr} {cd:Value} {A:Around} {outer:List Env} {s s1:Shared} {H:Hp} {E:XK} {us:List Value} {vs:List V}
  (S:zay N ps scope) (hd:A.handled=none) (e0:Env0 P w K mg base A outer s H) (hl:vs.length=ps.length) (r:Vals vs us)
  (x:InCallC s s.heap.objs.size (bindL (envOfC qual scope s.heap.objs.size f cd).kindOf (ps.zip us) fun _=>none) (cellsFrom (s.heap.objs.size+1) scope.names []) (bindC (envOfC qual scope s.heap.objs.size f cd).kindOf (ps.zip us) fun _=>none) s1) :
  Inv (cxOf CX P w K mg base N qual scope f cd A outer s H E) [] (start N vs) H s1:=by
 have hpl:ps.length<=N.length:=by have:=congrArg List.length S.pre;rw[List.length_take] at this;omega
 obtain ⟨h1,tk,rfl,hk⟩:=x.done;have noA:∀b:Addr,b∉(cxOf CX P w K mg base N qual scope f cd A outer s H E).ex:=fun b z=>absurd (show b∈([]:List Addr) from z) (by simp)
 refine ⟨⟨e0.mod,S.kind,rfl,rfl,Nat.le_refl _,fun y z c h1 h2=>?_,fun y hy=>?_,fun y c _ h=>?_,fun _=>hd,Around.frames_deeper e0.frames,.inr ⟨rfl,rfl⟩,fun b z=>absurd z (noA b),e0.bs,e0.bsz,fun b _ _=>noA b,fun b z=>absurd z (noA b),e0.funs,e0.frf⟩,
  rfl,e0.bare,Un.kept hk,⟨_,x.toInCall.ns,fun i y v h1 h2 h3=>?_⟩,fun y c h=>⟨_,x.cell y c h⟩,e0.hok.fresh (Nat.le_refl _),fun y c h=>?_,fun p hp=>absurd (show p∈([]:List (Addr×Obj)) from hp) (by simp),e0.hok.kept hk, ?_⟩
 .exact name_of_addr x.apart (PySem.mem_of_lookup h1) (PySem.mem_of_lookup h2)
 .have hy:scope.names.lookup y=some .cell\/scope.names.lookup y=some .free:=hy;rcases hy with hy | hy
  .exact zj5 hy
  .exact absurd rfl (S.nofree _ (PySem.mem_of_lookup hy))
 .exact Nat.le_of_lt (x.above y c (PySem.mem_of_lookup h))
 .have hi:i < vs.length:=by
   unfold start at h2
   by_cases hi:i < vs.length
   .exact hi
   .rw[List.getElem?_append_right (by simpa using hi)] at h2;rw[List.getElem?_replicate] at h2;split at h2<;>cases h2
  have ha:vs[i]? = some v:=by
   unfold start at h2;rw[List.getElem?_append_left (by simpa using hi),List.getElem?_map] at h2
   cases e:vs[i]? with
   | none=>rw[e] at h2;cases h2
   | some a=>rw[e] at h2;cases h2;rfl
  obtain ⟨u,hu,rv⟩:=r.get ha;have hp:ps[i]? = some y:=by
   rw[<-S.pre,List.getElem?_take_of_lt (by omega)];exact h1
  have ndP:ps.Nodup:=by rw[<-S.pre];exact S.nd.sublist (List.take_sublist _ _)
  refine ⟨u,rv, ?_⟩;rcases S.par y (List.mem_of_getElem? hp) with k | k
  .exact .inl ⟨k,zid ndP hp hu k⟩
  .obtain ⟨c,e⟩:=zj5 (n:=s.heap.objs.size+1) k;refine .inr ⟨.inl k,c,e, ?_⟩;have q:=x.cell y c e;rw[zhS ndP hp hu (by show scope.names.lookup y≠_;rw[k];decide)] at q;exact q
 .exact e0.hok.fresh (Nat.le_of_lt (x.above y c (PySem.mem_of_lookup h)))
 .unfold start
  show _=N.length
  rw[List.length_append,List.length_map,List.length_replicate];omega
theorem zqb {CX:CXT} {P:Program} {w:World} {K:PySem.W.Frag} {mg:Str->Option Value} {base:Heap} {k:Nat} {f:Addr} {name qual:Str} {params:Arguments} {body:List Stmt} {scope:Scope} {dV kV doc pm cdv ct oc:Value} {an od:Option Addr}
  {osl:Array (Option Value)} {N ps:List Str} {sp:Sp} (lk:K.lookup f=some ⟨oc,od,.func (PySem.W.fnOf name qual params body scope dV kV doc pm an cdv ct),osl⟩) (hcd:PySem.W.codeIn K cdv qual=true) (S:zay N ps scope)
  (len:∀vs H Q E,sp vs H Q E->vs.length=ps.length)
  (hbody:∀(A:Around) (outer:List Env) (s:Shared) (H:Hp) (vs:List V) (Q:VK) (E:XK),Room k (A.deeper (envOfC qual scope s.heap.objs.size f cdv))->sp vs H Q E->
   ∃t,PSs (cxOf CX P w K mg base N qual scope f cdv A outer s H E) body t/\t { nx:=fun _ H'=>Q .non H',rt:=Q } (start N vs) H) :
  FnOk P w K mg base CX (k+1) f (PySem.W.fnOf name qual params body scope dV kV doc pm an cdv ct) ps sp:=by
 refine ⟨len,fun A outer s H args us vs Q E hr e0 hb r hsp=>?_⟩;have hl:=len _ _ _ _ hsp;have KX:K.In s.heap:=e0.mod.kin.keeps fun b o e=>(e0.bs b o e).1
 have lim:s.heap.NoLimit:=e0.mod.nolimit.keeps fun b o e=>(e0.bs b o e).1
 have hkind:∀y∈ps.zip us,scope.names.lookup y.1=some .local\/(scope.names.lookup y.1=some .cell/\((cellsFrom (s.heap.objs.size+1) scope.names []).lookup y.1).isSome=true):=fun ⟨n,v⟩ hy=>by
  rcases S.par n (List.of_mem_zip hy).1 with q | q
  .exact .inl q
  .exact .inr ⟨q,PySem.W.cellsFrom_some _ _ _ (.inl q)⟩
 refine codeAny_call_function hr.depth (KX _ _ lk) rfl S.co S.gen rfl (PySem.W.codeRec_of KX hcd) (hb _ _ _ _ ?_);refine wpAny_newFunctionEnv_cells S.kind hkind fun env he s1 x=>?_
 subst he;refine ⟨lim.keeps x.toInCall.keep,codeAny_func ?_⟩;obtain ⟨t,ht,hq⟩:=hbody A outer s H vs Q E (hr.deeper _) hsp;have I:Inv (cxOf CX P w K mg base N qual scope f cdv A outer s H E) [] (start N vs) H s1:=zlR S hr.hd e0 hl r x;refine wpAny_mono (ht [] s1 (start N vs) H _ I hq) (fun fl s' hs=>?_) fun e s' hs=>hs
 have fin:∀{σ':St} {H':Hp} {v:V} {u:Value},Inv (cxOf CX P w K mg base N qual scope f cdv A outer s H E) [] σ' H' s'->RelV v u->Q v H'->CE outer P w H s Q u s':=
  fun {σ' H' v u} J rv q=>⟨v,H',J.os,J.bare,J.base,J.hok,rv,q⟩
 cases fl with
 | ret u=>
  obtain ⟨v,σ',H',J,rv,q⟩:=hs;exact fin J rv q
 | next=>
  obtain ⟨σ',H',J,q⟩:=hs;exact fin (v:=V.non) (u:=Value.none) J rfl q
 | brk=>
  obtain ⟨_,_,_,q⟩:=hs;exact False.elim q
 | cont=>
  obtain ⟨_,_,_,q⟩:=hs;exact False.elim q
section
variable {X:Cx} {x:Str} {p pos:Pos} {e:Expr} {es:List Expr} {t:TA} {id T:String} {r:List V->Hp->VK->Prop}
def tCB (r:List V->Hp->VK->Prop) (t:TA):TE:=fun σ H Q=>t σ H fun vs H1=>r vs H1 Q
theorem zm3 (hc:CallR X (.builtin id) r) (hg:Gl X x) (hm:X.mg x=none) (hv:bootBuiltins x=some (.builtin id)) (ha:PA X (e::es) t) (hn:x≠"__name__":=by decide) (hdb:(x==("__debug__":Str))=false:=by decide)
  (he:starEach (e::es) X.env=(false,eval e X.env)::starEach es X.env:=by rfl) (hpl:(backTo pos (starEach es X.env)).any (·.1)=false:=by rfl):PE X (.Call (.Name x p) (e::es) [] pos) (tCB r t):=by
 intro pins s σ H Q I h;refine wpAny_Call_Name_kw (zhX I hg hm hv ?_ hn hdb);exact PyProof.Rows.callWith_builtin1 (thn (ha pos pins s σ H _ I h) fun us s1 ⟨vs,H1,I1,r1,q1⟩=>hc pins s1 σ H1 vs us Q I1 r1 q1) he hpl
theorem zmd (hc:CallR X (.type T) r) (hg:Gl X x) (hm:X.mg x=none) (hv:bootBuiltins x=some (.type T)) (ha:PA X (e::es) t) (hn:x≠"__name__":=by decide) (hdb:(x==("__debug__":Str))=false:=by decide)
  (he:starEach (e::es) X.env=(false,eval e X.env)::starEach es X.env:=by rfl) (hpl:(backTo pos (starEach es X.env)).any (·.1)=false:=by rfl):PE X (.Call (.Name x p) (e::es) [] pos) (tCB r t):=by
 intro pins s σ H Q I h;refine wpAny_Call_Name_kw (zhX I hg hm hv ?_ hn hdb);exact PyProof.Rows.callWith_type1 (thn (ha pos pins s σ H _ I h) fun us s1 ⟨vs,H1,I1,r1,q1⟩=>hc pins s1 σ H1 vs us Q I1 r1 q1) he hpl
end
end L2
namespace HT
open PySem PyProof.Rows
section
open PySem.SeqAt
open PySem.AutoSeq1 (wpAny_loadPart')
open PySem.MeetsSeq PySem.MeetsSeq2 PySem.MeetsSeq3
end
section
variable {prog:Program} {w:World} {A:Around} {E:Value->Shared->Prop} {s:Shared}
def sIx (n d:Nat):Option Int->Nat
 | none=>d
 | some v=>if v < 0 then (v+(n:Int)).toNat else min v.toNat n
theorem zrl (n d:Nat) (hd:d<=n) (o:Option Int):sIx n d o<=n:=by
 cases o with
 | none=>exact hd
 | some v=>
  show (if v < 0 then (v+(n:Int)).toNat else min v.toNat n)<=n
  by_cases hv:v < 0
  .rw[if_pos hv];omega
  .rw[if_neg hv];exact Nat.min_le_right _ _
theorem zkU (v:Int) (n d:Nat):(if v < 0 then max (v+(n:Int)) 0 else min v (n:Int))=((sIx n d (some v):Nat):Int):=by
 show (if v < 0 then max (v+(n:Int)) 0 else min v (n:Int))=(((if v < 0 then (v+(n:Int)).toNat else min v.toNat n):Nat):Int)
 by_cases hv:v < 0
 .simp only[if_pos hv];omega
 .simp only[if_neg hv];omega
theorem zkg (lo hi:Option Int) (n:Nat):Builtin.Slice.sliceAdjust lo hi 1 (n:Int)=(((sIx n 0 lo:Nat):Int),((sIx n n hi:Nat):Int)):=by
 have h1:¬((1:Int) < 0):=by omega
 unfold Builtin.Slice.sliceAdjust;simp only[h1,if_false];refine Prod.ext ?_ ?_
 .cases lo with
  | none=>rfl
  | some v=>exact zkU v n 0
 .cases hi with
  | none=>rfl
  | some v=>exact zkU v n n
theorem zkf (i j:Nat):Builtin.Slice.slicePlaces (i:Int) (j:Int) 1=j - i:=by
 unfold Builtin.Slice.slicePlaces;have h1:(1:Int) > 0:=by omega
 simp only[h1,if_true,Int.ediv_one];split<;>omega
theorem zg0 {v:Value} {o:Option Int} {Q:Option Int->Shared->Prop} (p:IsPart v o) (h:Q o s):wpAny (model prog w) A (Builtin.Slice.slicePartIndex v) Q E s:=by
 cases p with
 | none=>exact slicePart_none h
 | int i t=>exact slicePart_int h
theorem zf5 {sl:Addr} {vl vu:Value} {lo hi:Option Int} {n:Nat} {Q:Int×Int×Nat->Shared->Prop} (hs:s.heap.IsSliceOf sl vl vu .none) (pl:IsPart vl lo) (pu:IsPart vu hi)
  (h:Q (((sIx n 0 lo:Nat):Int),1,sIx n n hi - sIx n 0 lo) s):wpAny (model prog w) A (Builtin.Slice.sliceApplied (.ref sl) (pure (n:Int))) Q E s:=by
 obtain ⟨os,hos,hcs,hds⟩:=id hs;unfold Builtin.Slice.sliceApplied Builtin.Slice.sliceFields;refine wpAny_bind (wpAny_bind (wpAny_field hos hds (x:=vl) rfl (wpAny_bind (wpAny_field hos hds (x:=vu) rfl (wpAny_bind (wpAny_field hos hds (x:=.none) rfl (wpAny_pure ?_)))))));refine wpAny_bind (slicePart_none ?_)
 show wpAny _ _ (if ((1:Int)==0)=true then _ else _) _ _ s
 rw[if_neg (by decide)];refine wpAny_bind (zg0 pl (wpAny_bind (zg0 pu (wpAny_bind (wpAny_pure ?_)))))
 show wpAny _ _ (match Builtin.Slice.sliceAdjust lo hi 1 (n:Int) with | (lo,hi)=>pure (lo,(1:Int),Builtin.Slice.slicePlaces lo hi 1)) _ _ s
 rw[zkg lo hi n]
 show wpAny _ _ (pure (((sIx n 0 lo:Nat):Int),(1:Int),Builtin.Slice.slicePlaces ((sIx n 0 lo:Nat):Int) ((sIx n n hi:Nat):Int) 1)) _ _ s
 rw[zkf];exact wpAny_pure h
theorem zm1 (xs:Array Value) (i k:Nat):((List.range k).filterMap fun (m:Nat)=>xs[((i:Int)+(m:Int) * 1).toNat]?).toArray=((xs.toList.drop i).take k).toArray:=by
 have e:(fun (m:Nat)=>xs[((i:Int)+(m:Int) * 1).toNat]?)=fun m=>xs[i+m]? := by
  funext m
  have:((i:Int)+(m:Int) * 1).toNat=i+m:=by omega
  rw[this]
 rw[e]
 have:=pick_run xs i k
 rw[List.filterMap_map] at this;have e2:((fun x=>xs[x]?) ∘ fun x=>i+x)=fun m=>xs[i+m]? := rfl
 rw[e2] at this;rw[this]
theorem zfI {t sl:Addr} {items:Array Value} {vl vu:Value} {lo hi:Option Int} {Q:Value->Shared->Prop} (ht:IsTup s.heap t items) (hs:s.heap.IsSliceOf sl vl vu .none) (pl:IsPart vl lo) (pu:IsPart vu hi)
  (hw:¬(sIx items.size 0 lo=0/\sIx items.size items.size hi=items.size))
  (h:Q (.ref s.heap.objs.size) { s with heap:=s.heap.push { cls:=.type "tuple",data:=.seq ((items.toList.drop (sIx items.size 0 lo)).take (sIx items.size items.size hi - sIx items.size 0 lo)).toArray } })
  (hsz:items.size<=sizeLine):wpAny (model prog w) A (getItem (.ref t) (.ref sl)) Q E s:=by
 have htake:sizeOk (.seq ((items.toList.drop (sIx items.size 0 lo)).take (sIx items.size items.size hi - sIx items.size 0 lo)).toArray):=by
  show ((items.toList.drop (sIx items.size 0 lo)).take (sIx items.size items.size hi - sIx items.size 0 lo)).toArray.size<=sizeLine
  rw[List.size_toArray,List.length_take,List.length_drop,Array.length_toList];omega
 have hj:sIx items.size items.size hi<=items.size:=zrl _ _ (Nat.le_refl _) hi;obtain ⟨os,hos,hcs,hds⟩:=id hs;have hTs:s.TypeIs (.ref sl) "slice":=⟨os,hos,hcs⟩;unfold getItem
 try with_reducible refine wpAny_holding ?_
 first | refine wpAny_bind (wpAny_pure ?_) | skip
 refine wpAny_bind (wpAny_sequenceKey ht.typeIs (by decide) ?_);refine wpAny_bind (wpAny_callSpecial?_slot (name:=Str.ofString "__getitem__") ht.typeIs PyProof.Rows.slot_tuple_getitem
  (wpAny_call_entry PyProof.Rows.slot_tuple_getitem ht.typeIs entry_tuple_getitem ?_ (args_tuple_getitem _ _)))
 show wpAny _ _ (Builtin.Tuple.tupleItemsOf (.ref t) >>= _) _ _ s
 refine wpAny_bind (tupleItemsOf_ ht ?_);refine wpAny_bind (wpAny_typeOf hTs ?_);rw[if_pos (by decide)];refine wpAny_bind (zf5 hs pl pu ?_);have hno:¬((((sIx items.size 0 lo:Nat):Int)==0&&(1:Int)==1&&(sIx items.size items.size hi - sIx items.size 0 lo)==items.size)=true):=by
  intro q;rw[Bool.and_eq_true,Bool.and_eq_true] at q;have q1:((sIx items.size 0 lo:Nat):Int)=0:=eq_of_beq q.1.1;have q2:sIx items.size items.size hi - sIx items.size 0 lo=items.size:=eq_of_beq q.2;exact hw ⟨by omega,by omega⟩
 show wpAny _ _ (if (((sIx items.size 0 lo:Nat):Int)==0&&(1:Int)==1&&(sIx items.size items.size hi - sIx items.size 0 lo)==items.size)=true then _ else _) _ _ s
 rw[if_neg hno,zm1]
 first
  | exact wpAny_bind (m:=Builtin.Tuple.tupleExact _) (wpAny_newObj_type (wpAny_pure ⟨_,rfl,wpAny_pure h⟩) htake)
  | exact wpAny_bind (m:=Builtin.Tuple.tupleExact _) (wpAny_newObj_type (wpAny_bind (wpAny_pure (wpAny_pure ⟨_,rfl,wpAny_pure h⟩))) htake)
  | exact wpAny_bind (wpAny_bind (m:=Builtin.Tuple.tupleExact _) (wpAny_newObj_type (wpAny_pure (wpAny_pure ⟨_,rfl,wpAny_pure h⟩)) htake))
  | exact wpAny_bind (wpAny_bind (m:=Builtin.Tuple.tupleExact _) (wpAny_newObj_type (wpAny_pure ⟨_,rfl,wpAny_pure h⟩) htake))
end
end HT
namespace L2
open PySem PySem.Spec PyProof.Rows
abbrev TO:=St->Hp->(Option Int->Hp->Prop)->Prop
def PO (X:Cx) (e:Option Expr) (t:TO):Prop:=
 ∀(pins:List (Addr×Obj)) (s:Shared) (σ:St) (H:Hp) (Q:Option Int->Hp->Prop),Inv X pins σ H s->t σ H Q->
  wpAny (model X.prog X.w) X.A (evalPart e X.env) (fun u s'=>∃o H',Inv X pins σ H' s'/\IsPart u o/\Q o H') X.xe s
def zoz:TO:=fun _ H Q=>Q none H
def zsX (t:TE):TO:=fun σ H Q=>t σ H fun x H1=>∃i,x=.int i/\Q (some i) H1
theorem zg6 {ns:List Int}:∀{us:List Value},Vals (ns.map V.int) us->IntsAre us ns:=by
 induction ns with
 | nil=>intro us r;rw[List.map_nil] at r;cases r;exact .nil
 | cons n ns ih=>
  intro us r;rw[List.map_cons] at r
  cases r with
  | cons r1 r2=>
   obtain ⟨t,e⟩:=r1;subst e;exact .cons n t (ih r2)
section
variable {X:Cx} {e:Expr} {te:TE} {lo hi:Option Expr} {tl th:TO} {pos p2:Pos}
theorem zo6:PO X none zoz:=by
 intro pins s σ H Q I h;rw[evalPart_none];exact wpAny_pure ⟨none,H,I,.none,h⟩
theorem zoy (h:PE X e te):PO X (some e) (zsX te):=by
 intro pins s σ H Q I hw;rw[evalPart_some];refine thn (h pins s σ H _ I hw) fun u s1 hx__=>?_
 obtain ⟨x,H1,I1,r1,q1⟩:=hx__;obtain ⟨i,rfl,q⟩:=q1;obtain ⟨t,rfl⟩:=r1;exact ⟨some i,H1,I1,.int i t,q⟩
def SlR (X:Cx) (r:V->Option Int->Option Int->Hp->VK->Prop):Prop:=
 ∀(pins:List (Addr×Obj)) (s:Shared) (σ:St) (H:Hp) (x:V) (v vl vu:Value) (lo hi:Option Int) (sl:Addr) (Q:VK),Inv X pins σ H s->RelV x v->s.heap.IsSliceOf sl vl vu .none->IsPart vl lo->IsPart vu hi->r x lo hi H Q->
  ∃T id,typeLookup (.type T) "__getitem__"=pure (some (.builtin id))/\s.TypeIs v T/\wpAny (model X.prog X.w) X.A (getItem v (.ref sl)) (EP X pins σ Q) X.xe s
theorem SlR.or {r r':V->Option Int->Option Int->Hp->VK->Prop} (h:SlR X r) (h':SlR X r'):SlR X (fun x lo hi H Q=>r x lo hi H Q\/r' x lo hi H Q):=by
 intro pins s σ H x v vl vu lo hi sl Q I rx hs pl pu q;rcases q with q | q
 .exact h pins s σ H x v vl vu lo hi sl Q I rx hs pl pu q
 .exact h' pins s σ H x v vl vu lo hi sl Q I rx hs pl pu q
def tSl (r:V->Option Int->Option Int->Hp->VK->Prop) (te:TE) (tl th:TO):TE:=fun σ H Q=>te σ H fun x H1=>tl σ H1 fun l H2=>th σ H2 fun u H3=>r x l u H3 Q
theorem zmU {r:V->Option Int->Option Int->Hp->VK->Prop} (hr:SlR X r) (he:PE X e te) (hl:PO X lo tl) (hu:PO X hi th):PE X (.Subscript e (.Slice lo hi none p2) pos) (tSl r te tl th):=by
 intro pins s σ H Q I h;refine Subscript_ (thn (he pins s σ H _ I h) fun v s1 hx__=>?_);obtain ⟨x,H1,I1,r1,q1⟩:=hx__;refine wpAny_Slice (thn (hl pins s1 σ H1 _ I1 q1) fun vl s2 ⟨l,H2,I2,pl,q2⟩=>thn (hu pins s2 σ H2 _ I2 q2) fun vu s3 hx__=>?_);obtain ⟨u,H3,I3,pu,q3⟩:=hx__;rw[evalPart_none];refine wpAny_pure ?_;have I4:Inv X pins σ H3 { s3 with heap:=s3.heap.push { cls:=.type "slice",data:=.fields #[vl,vu,.none] } }:=I3.kept (t':=s3.toks) fun b ob q=>Heap.get?_push_of_some _ q
 obtain ⟨T,id,hT,ht,hg⟩:=hr pins { s3 with heap:=s3.heap.push { cls:=.type "slice",data:=.fields #[vl,vu,.none] } } σ H3 x v vl vu l u s3.heap.objs.size Q I4 r1 (Heap.IsSliceOf.new ..) pl pu q3
 show wpAny (model X.prog X.w) X.A (subscriptTail e (.Slice lo hi none p2) v (.ref s3.heap.objs.size)) (EP X pins σ Q) X.xe { s3 with heap:=s3.heap.push { cls:=.type "slice",data:=.fields #[vl,vu,.none] } }
 exact tail_any (ops:=[.ref s3.heap.objs.size,v]) ht hT hg (by with_unfolding_all rfl)
def cutV (xs:List V) (lo hi:Option Int):List V:=(xs.drop (HT.sIx xs.length 0 lo)).take (HT.sIx xs.length xs.length hi - HT.sIx xs.length 0 lo)
theorem zgM (xs:List V) (lo hi:Option Int):(cutV xs lo hi).length<=xs.length:=by
 unfold cutV;rw[List.length_take,List.length_drop];omega
def rSlT (K:PySem.W.Frag):V->Option Int->Option Int->Hp->VK->Prop:=fun x lo hi H Q=>∃a xs,x=.ref a/\SqT K H a xs/\
 ¬(HT.sIx xs.length 0 lo=0/\HT.sIx xs.length xs.length hi=xs.length)/\∀p,H p=none->Q (.ref p) (upd H p (.tup (cutV xs lo hi)))
theorem zqD:SlR X (rSlT X.K):=by
 intro pins s σ H x v vl vu lo hi sl Q I rx hs pl pu h;obtain ⟨a,xs,rfl,hx,hw,q⟩:=h;cases rx;obtain ⟨its,r,ht,hz⟩:=I.tuple hx;have hlen:its.toArray.size=xs.length:=by rw[List.size_toArray];exact r.length.symm
 refine ⟨"tuple",_,PyProof.Rows.slot_tuple_getitem.lookup,ht.typeIs, ?_⟩;refine HT.zfI ht hs pl pu (by rw[hlen];exact hw) ?_ (by rw[hlen];exact hz);rw[hlen];refine ⟨.ref s.heap.objs.size,_,I.laid (t':=s.toks) (o:=.tup (cutV xs lo hi)) (fun b ob q=>Heap.get?_push_of_some _ q) (Nat.le_refl _) ?_,rfl,q _ (I.hok.fresh (Nat.le_refl _))⟩;exact ⟨Nat.le_trans (zgM xs lo hi) hz,_,(r.drop (HT.sIx xs.length 0 lo)).take (HT.sIx xs.length xs.length hi - HT.sIx xs.length 0 lo),IsTup.new _ _⟩
end
def ixN (n:Nat) (i:Int):Option Nat:=if 0<=i then (if i < n then some i.toNat else none) else if -(n:Int)<=i then some (i+n).toNat else none
def atI {α:Type} (xs:List α) (i:Int):Option α:=(ixN xs.length i).bind fun j=>xs[j]?
theorem zlH {n:Nat} {i:Int} {j:Nat} (h:ixN n i=some j):seqIndex? i n=some j/\j < n/\-(n:Int)<=i/\i < n:=by
 unfold ixN at h
 by_cases h0:0<=i
 .rw[if_pos h0] at h
  by_cases h1:i < n
  .rw[if_pos h1] at h;have e:i.toNat=j:=Option.some.inj h;exact ⟨by rw[seqIndex_of h0 h1,e],by omega,by omega,h1⟩
  .rw[if_neg h1] at h;cases h
 .rw[if_neg h0] at h
  by_cases h1:-(n:Int)<=i
  .rw[if_pos h1] at h;have e:(i+n).toNat=j:=Option.some.inj h;exact ⟨by rw[seqIndex_neg (by omega) h1,e],by omega,h1,by omega⟩
  .rw[if_neg h1] at h;cases h
theorem zi1 {α:Type} {xs:List α} {i:Int} {v:α} (h:atI xs i=some v):∃j,seqIndex? i xs.length=some j/\xs[j]? = some v/\j < xs.length/\-(xs.length:Int)<=i/\i < xs.length:=by
 unfold atI at h
 cases e:ixN xs.length i with
 | none=>rw[e] at h;cases h
 | some j=>
  rw[e] at h;obtain ⟨h1,h2,h3,h4⟩:=zlH e;exact ⟨j,h1,h,h2,h3,h4⟩
theorem zol {α:Type} {xs:List α} {j:Nat} {v:α} (h:xs[j]? = some v):atI xs (j:Int)=some v:=by
 have hj:j < xs.length:=(List.getElem?_eq_some_iff.mp h).1;have e:ixN xs.length (j:Int)=some j:=by
  unfold ixN;rw[if_pos (by omega),if_pos (by omega)];simp
 unfold atI;rw[e];exact h
def zld (b:Expr):Prop:=∀o i,subscripted b false o i=operate [o,i] (getItem o i)
def IxR (X:Cx) (r:R2):Prop:=
 ∀(value slice:Expr) (pins:List (Addr×Obj)) (s:Shared) (σ:St) (H:Hp) (x y:V) (v u:Value) (Q:VK),Inv X pins σ H s->RelV x v->RelV y u->r x y H Q->
  subscripted slice false v u=operate [v,u] (getItem v u)->wpAny (model X.prog X.w) X.A (subscriptTail value slice v u) (EP X pins σ Q) X.xe s
def MtR (X:Cx) (id:String) (r:V->List V->Hp->VK->Prop):Prop:=
 ∀(pins:List (Addr×Obj)) (s:Shared) (σ:St) (H:Hp) (x:V) (xs:List V) (v:Value) (us:List Value) (Q:VK),Inv X pins σ H s->RelV x v->Vals xs us->r x xs H Q->
  wpAny (model X.prog X.w) X.A (call (.builtin id) (v::us)) (EP X pins σ Q) X.xe s
section
variable {X:Cx} {a b:Expr} {ta tb:TE} {pos:Pos}
theorem IxR.or {r r':R2} (h:IxR X r) (h':IxR X r'):IxR X (fun x y H Q=>r x y H Q\/r' x y H Q):=by
 intro value slice pins s σ H x y v u Q I rx ry q hs;rcases q with q | q
 .exact h value slice pins s σ H x y v u Q I rx ry q hs
 .exact h' value slice pins s σ H x y v u Q I rx ry q hs
theorem ztA {r:R2} (hr:IxR X r) (ha:PE X a ta) (hb:PE X b tb) (hs:zld b):PE X (.Subscript a b pos) (tOp r ta tb):=by
 intro pins s σ H Q I h;exact Subscript_ (binT ha hb I h fun v u s2 x y H2 I2 rx ry q=>hr a b pins s2 σ H2 x y v u Q I2 rx ry q (hs _ _))
def rIxL (K:PySem.W.Frag):R2:=fun x y H Q=>∃p xs i v,x=.ref p/\y=.int i/\SqL K H p xs/\atI xs i=some v/\Q v H
def rIxT (K:PySem.W.Frag):R2:=fun x y H Q=>∃p xs i v,x=.ref p/\y=.int i/\SqT K H p xs/\atI xs i=some v/\Q v H
def rIxS:R2:=fun x y H Q=>∃z i c,x=.str z/\y=.int i/\z.length<=sizeLine/\atI z.cps.toList i=some c/\Q (.str ⟨#[c]⟩) H
theorem ix_list:IxR X (rIxL X.K):=by
 intro value slice pins s σ H x y v u Q I rx ry h hs;obtain ⟨p,xs,i,z,rfl,rfl,hq,he,q⟩:=h;cases rx;obtain ⟨t,rfl⟩:=ry;obtain ⟨its,r,pl,hz⟩:=I.list hq;obtain ⟨j,h1,h2,h3,h4,h5⟩:=zi1 he;obtain ⟨w,ew,rw'⟩:=r.get h2;have hl:=r.length;have hn:=zgY;have fin:EP X pins σ Q w s:=⟨z,H,I,rw',q⟩
 by_cases h0:0<=i
 .have hj:i.toNat=j:=by
   rw[seqIndex_of h0 h5] at h1;exact Option.some.inj h1
  exact item_listR pl.isList h0 (by omega) (by rw[hj];simpa using ew) fin hs
 .have hj:(i+(its.toArray.size:Int)).toNat=j:=by
   rw[seqIndex_neg (by omega) h4] at h1;rw[List.size_toArray,<-hl];exact Option.some.inj h1
  exact subscriptTail_builtinR (x:=w) pl.isList.typeIs slot_list_getitem.lookup
   (wpAny_getItem_list_neg (Q:=fun r s'=>r=w/\EP X pins σ Q r s') pl.isList (by omega) (by rw[List.size_toArray]<;>omega) (by omega) (by rw[hj];simpa using ew) ⟨rfl,fin⟩) hs
theorem ix_tup:IxR X (rIxT X.K):=by
 intro value slice pins s σ H x y v u Q I rx ry h hs;obtain ⟨p,xs,i,z,rfl,rfl,hq,he,q⟩:=h;cases rx;obtain ⟨t,rfl⟩:=ry;obtain ⟨its,r,pl,hz⟩:=I.tuple hq;obtain ⟨j,h1,h2,h3,h4,h5⟩:=zi1 he;obtain ⟨w,ew,rw'⟩:=r.get h2;have hl:=r.length;have hn:=zgY;have fin:EP X pins σ Q w s:=⟨z,H,I,rw',q⟩;exact subscriptTail_builtinR (x:=w) pl.typeIs slot_tuple_getitem.lookup
  (getItem_tuple (j:=j) (Q:=fun r s'=>r=w/\EP X pins σ Q r s') pl (by omega) (by omega) (by rw[List.size_toArray,<-hl];exact h1) (by simpa using ew) ⟨rfl,fin⟩) hs
theorem zra:IxR X rIxS:=by
 intro value slice pins s σ H x y v u Q I rx ry h hs;obtain ⟨z,i,c,rfl,rfl,hz,he,q⟩:=h;obtain ⟨t,rfl⟩:=rx;obtain ⟨t',rfl⟩:=ry;obtain ⟨j,h1,h2,h3,h4,h5⟩:=zi1 he;have hl:z.cps.toList.length=z.length:=by simp[Str.length]
 rw[hl] at h1 h4 h5;have hn:=zgY;exact tail_any (typeIs_str s z t) slot_str_getitem.lookup (getItem_str (c:=c) (by
  have e1:decide (i < -(2 ^ 63:Int))=false:=decide_eq_false (by omega);have e2:decide (i≥2 ^ 63)=false:=decide_eq_false (by omega);rw[e1,e2,Bool.or_false]) (by rw[h1];simpa using h2) ⟨.str ⟨#[c]⟩,H,I.tok _,⟨_,rfl⟩,q⟩) hs
def rIx (K:PySem.W.Frag):R2:=fun x y H Q=>rIxL K x y H Q\/rIxT K x y H Q\/rIxS x y H Q
theorem zqW:IxR X (rIx X.K):=ix_list.or (ix_tup.or zra)
theorem zkm (its:List Value) (n j:Nat) (u:Value):Obj.mapSeq (·.setIfInBounds j u) { cls:=.type "list",data:=.seq its.toArray n }={ cls:=.type "list",data:=.seq (its.set j u).toArray n }:=by
 simp[Obj.mapSeq]
theorem Inv.lst {pins:List (Addr×Obj)} {σ:St} {H:Hp} {s:Shared} {p:Addr} {xs:List V} (I:Inv X pins σ H s) (h:H p=some (.lst xs)) :
  ∃(its:List Value) (n:Nat),Vals xs its/\s.heap.get? p=some { cls:=.type "list",data:=.seq its.toArray n }/\xs.length<=sizeLine:=by
 obtain ⟨z,its,n,r,e⟩:=I.hok p _ h;exact ⟨its,n,r,e,z⟩
theorem Inv.lstUpd {pins:List (Addr×Obj)} {σ:St} {H:Hp} {s:Shared} {p:Addr} {xs ys:List V} {its its':List Value} {n n':Nat} {f:Obj->Obj} (I:Inv X pins σ H s) (h:H p=some (.lst xs))
  (ho:s.heap.get? p=some { cls:=.type "list",data:=.seq its.toArray n }) (hf:f { cls:=.type "list",data:=.seq its.toArray n }={ cls:=.type "list",data:=.seq its'.toArray n' }) (r:Vals ys its') (hz:ys.length<=sizeLine) (t:Nat) :
  Inv X pins σ (upd H p (.lst ys)) { s with heap:=s.heap.update p f,toks:=t }:=by
 have e:(s.heap.update p f).get? p=some { cls:=.type "list",data:=.seq its'.toArray n' }:=by
  rw[Heap.get?_update_self f ho (by rw[hf]<;>rfl),hf]
 refine I.write (x:=p) (e:=p) (by rw[h];trivial) (.inl rfl) (fun b u hb q=>(Heap.get?_update_other _ _ (Ne.symm hb)).trans q) ⟨_,e⟩ ?_;exact ⟨hz,its',n',r,e⟩
def zpy:V->V->V->Hp->(Hp->Prop)->Prop:=fun o i v H Q=>∃p xs k j,o=.ref p/\i=.int k/\H p=some (.lst xs)/\ixN xs.length k=some j/\Q (upd H p (.lst (xs.set j v)))
theorem zmF:PSet X zpy:=by
 intro pins s σ H o i v ov iv u Q I ro ri rv h;obtain ⟨p,xs,k,j,rfl,rfl,hp,hj,q⟩:=h;cases ro;obtain ⟨t,rfl⟩:=ri;obtain ⟨its,n,r,ho,hz⟩:=I.lst hp;obtain ⟨h1,h2,h3,h4⟩:=zlH hj;have hl:=r.length;have hn:=zgY;have I':Inv X pins σ (upd H p (.lst (xs.set j v))) { s with heap:=s.heap.update p (Obj.mapSeq (·.setIfInBounds j u)) }:=
  I.lstUpd hp ho (zkm its n j u) (r.set rv j) (by rw[List.length_set];exact hz) s.toks
 by_cases h0:0<=k
 .have hk:k.toNat=j:=by
   rw[seqIndex_of h0 h4] at h1;exact Option.some.inj h1
  exact PySem.W.ki_setAt ho h0 (by omega) (by rw[List.size_toArray,<-hl];exact h4) (by rw[hk];exact ⟨_,I',q⟩)
 .have hk:(k+(its.toArray.size:Int)).toNat=j:=by
   rw[seqIndex_neg (by omega) h3] at h1;rw[List.size_toArray,<-hl];exact Option.some.inj h1
  exact PySem.W.ki_setBack ho (by omega) (by rw[List.size_toArray,<-hl];exact h3) (by omega) (by rw[hk];exact ⟨_,I',q⟩)
theorem zir (lo hi:Option Int) (n:Nat):(sliceBounds lo hi none n).1=((HT.sIx n 0 lo:Nat):Int)/\(sliceBounds lo hi none n).2.1=((HT.sIx n n hi:Nat):Int)/\(sliceBounds lo hi none n).2.2=1:=by
 refine ⟨?_, ?_,rfl⟩
 .cases lo with
  | none=>simp[sliceBounds,HT.sIx]
  | some i=>
   simp only[sliceBounds,HT.sIx,Option.getD_none,show (1:Int) > 0 by decide,if_true]
   by_cases h:i < 0
   .simp only[h,if_true]<;>omega
   .simp only[h,if_false]<;>omega
 .cases hi with
  | none=>simp[sliceBounds,HT.sIx]
  | some i=>
   simp only[sliceBounds,HT.sIx,Option.getD_none,show (1:Int) > 0 by decide,if_true]
   by_cases h:i < 0
   .simp only[h,if_true]<;>omega
   .simp only[h,if_false]<;>omega
theorem zhK (its:List Value) (lo hi:Option Int):slicePick its.toArray lo hi none=((its.drop (HT.sIx its.length 0 lo)).take (HT.sIx its.length its.length hi - HT.sIx its.length 0 lo)).toArray:=by
 obtain ⟨h1,h2,h3⟩:=zir lo hi its.toArray.size;unfold slicePick;rw[h1,h2,h3];simp only[sliceRange_one,pick_run,List.size_toArray]<;>rfl
def rSlL (K:PySem.W.Frag):V->Option Int->Option Int->Hp->VK->Prop:=fun x lo hi H Q=>∃a xs,x=.ref a/\SqL K H a xs/\∀p,H p=none->Q (.ref p) (upd H p (.lst (cutV xs lo hi)))
theorem sl_list:SlR X (rSlL X.K):=by
 intro pins s σ H x v vl vu lo hi sl Q I rx hs pl pu h;obtain ⟨a,xs,rfl,hx,q⟩:=h;cases rx;obtain ⟨its,r,ht,hz⟩:=I.list hx;have hlen:=r.length;refine ⟨"list",_,slot_list_getitem.lookup,ht.isList.typeIs, ?_⟩;refine wpAny_getItem_list_slice ht.isList hs pl pu .none (by simp) ?_ (by rw[List.size_toArray]<;>omega);rw[zhK,<-hlen];refine ⟨.ref s.heap.objs.size,_,I.laid (t':=s.toks) (o:=.lst (cutV xs lo hi)) (fun b ob q=>Heap.get?_push_of_some _ q) (Nat.le_refl _) ?_,rfl,q _ (I.hok.fresh (Nat.le_refl _))⟩;exact ⟨Nat.le_trans (zgM xs lo hi) hz,_,0,(r.drop (HT.sIx xs.length 0 lo)).take (HT.sIx xs.length xs.length hi - HT.sIx xs.length 0 lo),Heap.get?_push_size _ rfl⟩
theorem ziJ:CallR X (.builtin "len") (fun xs H Q=>∃p ys,xs=[.ref p]/\(SqL X.K H p ys\/SqT X.K H p ys)/\Q (.int ys.length) H):=by
 intro pins s σ H xs us Q I r h;obtain ⟨p,ys,rfl,hq,q⟩:=h;obtain ⟨u,rfl,rx⟩:=zjk r;cases rx;have hn:=zgY;rcases hq with hq | hq
 .obtain ⟨its,r',pl,hz⟩:=I.list hq;have hlen:=r'.length;exact Calls.call_len_list pl.isList (by simp only[List.size_toArray]<;>omega) ⟨.int ys.length,H,I.tok _,⟨s.toks+1,by rw[List.size_toArray,hlen]⟩,q⟩
 .obtain ⟨its,r',pl,hz⟩:=I.tuple hq;have hlen:=r'.length;exact len_tuple pl (by simp only[List.size_toArray]<;>omega) ⟨.int ys.length,H,I.tok _,⟨s.toks+1,by rw[List.size_toArray,hlen]⟩,q⟩
theorem zia:CallR X (.type "list") (fun xs H Q=>∃p ys,xs=[.ref p]/\(SqL X.K H p ys\/SqT X.K H p ys)/\∀l,H l=none->Q (.ref l) (upd H l (.lst ys))):=by
 intro pins s σ H xs us Q I r h;obtain ⟨p,ys,rfl,hq,q⟩:=h;obtain ⟨u,rfl,rx⟩:=zjk r;cases rx;have fin:∀(its:List Value),Vals ys its->ys.length<=sizeLine->∀(h':Heap) (c':Nat),(∀b o',s.heap.get? b=some o'->h'.get? b=some o')->
   h'.get? s.heap.objs.size=some { cls:=.type "list",dict:=none,data:=.seq its.toArray c',slots:=#[] }->EP X pins σ Q (.ref s.heap.objs.size) { s with heap:=h' }:=fun its r' hz h' c' kp e=>
  ⟨.ref s.heap.objs.size,_,I.laid (t':=s.toks) kp (Nat.le_refl _) (show ObjOk X.prog X.w _ h' _ (.lst ys) from ⟨hz,its,c',r',e⟩),rfl,q _ (I.hok.fresh (Nat.le_refl _))⟩
 rcases hq with hq | hq
 .obtain ⟨its,r',pl,hz⟩:=I.list hq;have hlen:=r'.length;obtain ⟨o,ho,hc,n,hd⟩:=pl.isList;exact call_list_seq p (.inl rfl) ho hc hd (fun h' c' kp e=>fin its r' hz h' c' kp e) (by simp only[List.size_toArray]<;>omega)
 .obtain ⟨its,r',pl,hz⟩:=I.tuple hq;have hlen:=r'.length;obtain ⟨o,ho,hc,n,hd⟩:=pl;exact call_list_seq p (.inr rfl) ho hc hd (fun h' c' kp e=>fin its r' hz h' c' kp e) (by simp only[List.size_toArray]<;>omega)
def tyV (K:PySem.W.Frag) (T:String) (x:V) (H:Hp):Prop:=match x with
 | .str _=>T="str"
 | .int _=>T="int"
 | .ref p=>(T="list"/\∃xs,SqL K H p xs)\/(T="tuple"/\∃o,K.lookup p=some o/\o.cls=.type "tuple"/\o.dict=none)\/
   (T="dict"/\((∃kvs,H p=some (.dK kvs))\/∃kvs,H p=some (.dT kvs)))\/(T="set"/\∃S n,H p=some (.set S n))
 | _=>False
theorem zny {pins:List (Addr×Obj)} {σ:St} {H:Hp} {s:Shared} {T:String} {x:V} {v:Value} (I:Inv X pins σ H s) (r:RelV x v) (ty:tyV X.K T x H) :
  s.TypeIs v T/\∀a,v=.ref a->∃ob,s.heap.get? a=some ob/\ob.dict=none:=by
 cases x with
 | str z=>
  obtain ⟨t,rfl⟩:=r
  cases (show T="str" from ty)
  exact ⟨typeIs_str s z t,fun _ e=>nomatch e⟩
 | int i=>
  obtain ⟨t,rfl⟩:=r
  cases (show T="int" from ty)
  exact ⟨typeIs_int s i t,fun _ e=>nomatch e⟩
 | ref p=>
  cases r;rcases ty with ⟨rfl,xs,hq⟩ | ⟨rfl,o,hk,hc,hd⟩ | ⟨rfl,hk⟩ | ⟨rfl,S,n,hk⟩
  .obtain ⟨its,_,pl,_⟩:=I.list hq;refine ⟨pl.isList.typeIs,fun a e=>?_⟩;cases e;obtain ⟨o,n,e,c,hd,_⟩:=pl;exact ⟨o,e,hd⟩
  .refine ⟨⟨o,I.kIn p o hk,hc⟩,fun a e=>?_⟩;cases e;exact ⟨o,I.kIn _ o hk,hd⟩
  .have z:∃o,s.heap.get? p=some o/\o.ExactDict:=by
    rcases hk with ⟨kvs,hk⟩ | ⟨kvs,hk⟩
    .obtain ⟨_,_,_,_,o,_,_,e,ex,_⟩:=I.hok p _ hk;exact ⟨o,e,ex⟩
    .obtain ⟨_,_,_,_,o,_,_,e,ex,_⟩:=I.hok p _ hk;exact ⟨o,e,ex⟩
   obtain ⟨o,e,ex⟩:=z;refine ⟨⟨o,e,ex.1⟩,fun a e2=>?_⟩;cases e2;exact ⟨o,e,ex.2.1⟩
  .obtain ⟨o,_,_,_,e,ex,_⟩:=I.hok p _ hk;refine ⟨⟨o,e,ex.1⟩,fun a e2=>?_⟩;cases e2;exact ⟨o,e,ex.2.1⟩
 | _=>exact False.elim ty
def tBM0 (K:PySem.W.Frag) (T:String) (r:V->List V->Hp->VK->Prop) (to:TE):TE:=fun σ H Q=>to σ H fun x H1=>tyV K T x H1/\r x [] H1 Q
def tBM (K:PySem.W.Frag) (T:String) (r:V->List V->Hp->VK->Prop) (to:TE) (t:TA):TE:=fun σ H Q=>to σ H fun x H1=>tyV K T x H1/\t σ H1 fun xs H2=>r x xs H2 Q
variable {o e:Expr} {es:List Expr} {to:TE} {t:TA} {name:Str} {apos cpos:Pos} {T id:String} {r:V->List V->Hp->VK->Prop}
theorem zqX (pa:PlainAttrs T) (slot:Slot T name id) (hty:typeOf (.builtin id)=pure (.type "method_descriptor")) (hm:MtR X id r) (ho:PE X o to)
  (hbase:attributeBase o name X.env (eval o X.env)=eval o X.env:=by rfl) (hline:(apos.endLine==cpos.line)=true:=by rfl):PE X (.Call (.Attribute o name apos) [] [] cpos) (tBM0 X.K T r to):=by
 intro pins s σ H Q I h;refine wpAny_Call_method0_late hbase hline (thn (ho pins s σ H _ I h) fun v s1 hx__=>?_);obtain ⟨x,H1,I1,r1,ty,q1⟩:=hx__;obtain ⟨h1,h2⟩:=zny I1 r1 ty;exact ⟨T,id,pa,slot,hty,h1,h2,Calls.callWith_builtin rfl (PySem.evalArgs_none (hm pins s1 σ H1 x [] v [] Q I1 r1 .nil q1))⟩
theorem zhs (pa:PlainAttrs T) (slot:Slot T name id) (hty:typeOf (.builtin id)=pure (.type "method_descriptor")) (hm:MtR X id r) (ho:PE X o to) (ha:PA X (e::es) t)
  (hbase:attributeBase o name X.env (eval o X.env)=eval o X.env:=by rfl)
  (hfew:((backTo cpos (starEach (e::es) X.env)).all (fun x=>!x.1)&&(backToKw cpos (keywordEach [] X.env)).all (fun x=>x.1.isSome)
   && decide ((e::es).length+([]:List Keyword).length+(if ([]:List Keyword).isEmpty then 0 else 1) < 30))=true:=by rfl)
  (hline:(apos.endLine==cpos.line)=true:=by rfl) (hs:starEach (e::es) X.env=(false,eval e X.env)::starEach es X.env:=by rfl) (hplain:(backTo cpos (starEach es X.env)).any (·.1)=false:=by rfl) :
  PE X (.Call (.Attribute o name apos) (e::es) [] cpos) (tBM X.K T r to t):=by
 intro pins s σ H Q I h;refine wpAny_Call_method_late hbase hfew hline rfl (thn (ho pins s σ H _ I h) fun v s1 hx__=>?_);obtain ⟨x,H1,I1,r1,ty,q1⟩:=hx__;obtain ⟨h1,h2⟩:=zny I1 r1 ty;refine ⟨T,id,pa,slot,hty,h1,h2, ?_⟩;have hA:=ha cpos pins s1 σ H1 _ I1 q1;rw[hs] at hA ⊢;refine Calls.callWith_builtin (by show (false || (backTo cpos (starEach es X.env)).any (·.1))=false;rw[hplain]<;>rfl) (Calls.evalArgs_plain ?_);exact thn hA fun us s2 ⟨vs,H2,I2,r2,q2⟩=>hm pins s2 σ H2 x vs v us Q I2 r1 r2 q2
end
def MtM (X:Cx) (id:String) (r:V->List V->Hp->VK->Prop):Prop:=
 ∀(pins:List (Addr×Obj)) (s:Shared) (σ:St) (H:Hp) (x:V) (xs:List V) (v:Value) (us:List Value) (Q:VK),Inv X pins σ H s->RelV x v->Vals xs us->r x xs H Q->
  wpAny (model X.prog X.w) X.A (call (.builtin id) (v::us)) (EP X pins σ Q) X.xe s
theorem Vals.one {x:V} {us:List Value} (h:Vals [x] us):∃u,us=[u]/\RelV x u:=by
 cases h with
 | cons r t=>cases t;exact ⟨_,rfl,r⟩
theorem Vals.reverse {xs:List V} {us:List Value} (h:Vals xs us):Vals xs.reverse us.reverse:=by
 induction h with
 | nil=>exact .nil
 | cons r t ih=>rw[List.reverse_cons,List.reverse_cons];exact Vals.append ih (.cons r .nil)
theorem Vals.rep {xs:List V} {us:List Value} (h:Vals xs us):∀k:Nat,Vals (List.replicate k xs).flatten (List.replicate k us).flatten
 | 0=>.nil
 | k+1=>by
  rw[List.replicate_succ,List.replicate_succ,List.flatten_cons,List.flatten_cons];exact Vals.append h (Vals.rep h k)
theorem zib (its:List Value):∀(k:Nat) (acc:List Value),
  List.foldl (fun x1 x2=>x1++x2) acc.toArray (List.replicate k its.toArray)=(acc++(List.replicate k its).flatten).toArray
 | 0,acc=>by simp
 | k+1,acc=>by
  have e:acc.toArray++its.toArray=(acc++its).toArray:=by simp
  have e2:(acc++its)++(List.replicate k its).flatten=acc++(List.replicate (k+1) its).flatten:=by
   rw[List.replicate_succ,List.flatten_cons,List.append_assoc]
  rw[<-e2,<-zib its k (acc++its),<-e,List.replicate_succ,List.foldl_cons]
section
variable {X:Cx} {pins:List (Addr×Obj)} {σ:St} {H:Hp} {s:Shared} {l b:Addr} {xs ys zs:List V}
theorem Inv.lset {its its':List Value} {n:Nat} {f:Array Value->Array Value} {t':Nat} (I:Inv X pins σ H s) (hH:H l=some (.lst xs))
  (e:s.heap.get? l=some { cls:=.type "list",data:=.seq its.toArray n }) (hf:f its.toArray=its'.toArray) (hv:Vals ys its') (hz:ys.length<=sizeLine) :
  Inv X pins σ (upd H l (.lst ys)) { s with heap:=s.heap.update l (Obj.mapSeq f),toks:=t' }:=by
 have q:=PySem.IsL.update e f;rw[hf] at q;refine I.write (x:=l) (e:=l) (by rw[hH];exact trivial) (.inl rfl) (fun b' u hb hu=>(Heap.get?_update_other s.heap (Obj.mapSeq f) (Ne.symm hb)).trans hu) ⟨_,q⟩ ?_;exact ⟨hz,its',_,hv,q⟩
theorem Inv.lnew {its:List Value} {t':Nat} (I:Inv X pins σ H s) (hv:Vals ys its) (hz:ys.length<=sizeLine) :
  Inv X pins σ (upd H s.heap.objs.size (.lst ys)) { s with heap:=s.heap.push { cls:=.type "list",data:=.seq its.toArray },toks:=t' }:=
 I.laid (fun _ _ q=>Heap.get?_push_of_some _ q) (Nat.le_refl _) ⟨hz,its,0,hv,Heap.get?_push_size _ rfl⟩
theorem Inv.fresh (I:Inv X pins σ H s):H s.heap.objs.size=none:=I.hok.fresh (Nat.le_refl _)
theorem Inv.lstM (I:Inv X pins σ H s) (hH:H l=some (.lst xs)):xs.length<=sizeLine/\∃(its:List Value) (n:Nat),Vals xs its/\xs.length=its.length/\s.heap.get? l=some { cls:=.type "list",data:=.seq its.toArray n }:=by
 obtain ⟨z,its,n,r,e⟩:=I.hok l _ hH;exact ⟨z,its,n,r,r.length,e⟩
theorem zmo {n:Nat} (h:n<=sizeLine):Builtin.List.listTooLong n=false:=by
 unfold Builtin.List.listTooLong;exact decide_eq_false (by omega)
end
section
variable {X:Cx}
def zjv:V->List V->Hp->VK->Prop:=fun x vs H Q=>∃l xs y,x=.ref l/\vs=[y]/\H l=some (.lst xs)/\xs.length < sizeLine/\Q .non (upd H l (.lst (xs++[y])))
theorem zcI:MtM X "list.append" zjv:=by
 intro pins s σ H x vs v us Q I rx rv h;obtain ⟨l,xs,y,rfl,rfl,hH,hz,q⟩:=h;cases rx;obtain ⟨u,rfl,ru⟩:=rv.one;obtain ⟨z,its,n,r,hl,e⟩:=I.lstM hH;refine call_meets F.slot_list_append ⟨_,e,rfl⟩ F.entry_list_append (F.args_list_append_2 _ _) (PySem.list_append l its.toArray n u (by rw[List.size_toArray];omega)) ⟨e, ?_⟩;refine ⟨.non,_,I.lset (its':=its++[u]) hH e (by simp) (r.append (.cons ru .nil)) ?_,rfl,q⟩;rw[List.length_append,List.length_singleton];omega
def rCat:R2:=fun x y H Q=>∃l b xs zs,x=.ref l/\y=.ref b/\H l=some (.lst xs)/\H b=some (.lst zs)/\xs.length+zs.length<=sizeLine/\∀p,H p=none->Q (.ref p) (upd H p (.lst (xs++zs)))
theorem zqH:OpR X (binaryOp .Add) rCat:=by
 intro pins s σ H x y v u Q I rx ry h;obtain ⟨l,b,xs,zs,rfl,rfl,hH,hB,hz,q⟩:=h;cases rx;cases ry;obtain ⟨z,its,n,r,hl,e⟩:=I.lstM hH;obtain ⟨z2,its2,n2,r2,hl2,e2⟩:=I.lstM hB;refine PySem.P.add_list e e2 ?_ (by rw[List.size_toArray,List.size_toArray];omega);have ea:its.toArray++its2.toArray=(its++its2).toArray:=by simp
 rw[ea];exact ⟨.ref _,_,I.lnew (t':=s.toks) (r.append r2) (by rw[List.length_append];omega),rfl,q _ I.fresh⟩
def rRep:R2:=fun x y H Q=>∃l k xs,x=.ref l/\y=.int k/\H l=some (.lst xs)/\-(2 ^ 63)<=k/\k < 2 ^ 63/\xs.length * k.toNat<=sizeLine/\
 ∀p,H p=none->Q (.ref p) (upd H p (.lst (List.replicate k.toNat xs).flatten))
theorem zpk {α:Type} (xs:List α) (k:Nat):(List.replicate k xs).flatten.length=k * xs.length:=by
 induction k with
 | zero=>simp
 | succ k ih=>rw[List.replicate_succ,List.flatten_cons,List.length_append,ih,Nat.succ_mul,Nat.add_comm]
theorem zrz:OpR X (binaryOp .Mult) rRep:=by
 intro pins s σ H x y v u Q I rx ry h;obtain ⟨l,k,xs,rfl,rfl,hH,h1,h2,hz,q⟩:=h;cases rx;obtain ⟨t,rfl⟩:=ry;obtain ⟨z,its,n,r,hl,e⟩:=I.lstM hH;have hlen:its.toArray.size * k.toNat<=sizeLine:=by rw[List.size_toArray,<-hl];exact hz
 have hcap:¬its.toArray.size * k.toNat > (2 ^ 63 - 1) / 8:=by
  have:(sizeLine:Nat)<=(2 ^ 63 - 1) / 8:=by decide
  omega
 have hfit:¬(!Builtin.List.listFitsIndex k)=true:=by
  rw[fitsIndex_both h1 h2];exact Bool.false_ne_true
 have hlong:¬Builtin.List.listTooLong (its.toArray.size * k.toNat)=true:=by
  rw[zmo hlen];exact Bool.false_ne_true
 have hnew:List.foldl (fun x1 x2=>x1++x2) #[] (List.replicate (if its.toArray.isEmpty=true then 0 else k.toNat) its.toArray)=(List.replicate k.toNat its).flatten.toArray:=by
  have f0:∀m:Nat,List.foldl (fun x1 x2=>x1++x2) #[] (List.replicate m its.toArray)=(List.replicate m its).flatten.toArray:=fun m=>by
   have:=zib its m []
   rw[List.nil_append] at this;exact this
  rw[f0]
  cases its with
  | nil=>simp
  | cons a r'=>rw[if_neg (by simp)]
 refine wpAny_binaryOp_repeat_ref (T:="list") (U:="int") (by decide) ⟨_,e,rfl⟩ (fun s'=>typeIs_int s' k t) noFill_list_mul F.fills_int_mul F.slot_int_rmul repeat_list F.slot_int_index.lookup
  (call_meets F.slot_int_rmul (typeIs_int s k t) F.entry_int_rmul (F.args_int_rmul_2 _ _) (int___rmul___int_list k t l its.toArray n)
   ⟨e,rfl,⟨_,e,rfl⟩,call_meets F.slot_list_mul ⟨_,e,rfl⟩ F.entry_list_mul (F.args_list_mul_2 _ _) (AutoListH.list___mul___list_int_3 l its.toArray n k t hfit hcap hlong) ⟨e, ?_⟩⟩)
 rw[hnew];exact ⟨.ref _,_,I.lnew (t':=s.toks) (r.rep k.toNat) (by rw[zpk,Nat.mul_comm];exact hz),rfl,q _ I.fresh⟩
end
section
variable {prog:Program} {w:World} {A:Around} {E:Value->Shared->Prop} {s:Shared}
end
section
variable {X:Cx}
end
end L2
namespace Att
open PySem PySem.W PySem.Calls PyProof.Rows
theorem zgB {P:Params} {h:Heap}:∀(ns:List Int) (vs:List Value),WellAll P h vs (ns.map WData.int)->IntsAre vs ns:=by
 intro ns
 induction ns with
 | nil=>
  intro vs w;rw[List.map_nil] at w;cases w;exact .nil
 | cons n ns ih=>
  intro vs w;rw[List.map_cons] at w
  cases w with
  | cons a b=>
   cases a;exact .cons _ _ (ih _ b)
theorem zlo {l:OpenLaw} {n:Nat} (hn:l.most=some n) {P:Params} {h:Heap} {args:List WData} {vals:List Value}
  (hpre:l.row.toRowW.claim.pre args=true) (hwl:WellAll P h vals args) :
  ∃a vs ns,vals=[Value.ref a]/\args=[WData.list (ns.map WData.int)]/\h.get? a=some { cls:=.type "list",data:=.seq vs.toArray }/\IntsAre vs ns/\ns.length<=n:=by
 have hsh:WShape.hasAll [] args [.list .int]=true:=(pre_splitW hpre).1;have hc:l.pre.holds [] { args:=args }=true:=(pre_splitW hpre).2;obtain ⟨d,r,rfl,h1,h2⟩:=hasAllW_cons hsh;obtain rfl:=hasAllW_nil h2;obtain ⟨xs,rfl,h3⟩:=hasW_list h1;obtain ⟨ns,rfl⟩:=items_int h3;have hlen:ns.length<=n:=by
  unfold OpenLaw.pre at hc;have h4:(WTm.not (.lt (.lit (.int (n:Int))) (.len (.arg 0)))).holds [] { args:=[.list (ns.map .int)] }=true:=by
   have h4:=(holds_andW hc).1;rw[hn] at h4;exact h4
  have h5:=condW_of h4 (w_not (w_lt w_lit (w_len_list (w_arg rfl))));rw[List.length_map] at h5;refine Nat.le_of_not_lt fun q=>?_
  have q':(n:Int) < ((ns.length:Nat):Int):=by omega
  first
   | (rw[decide_eq_true q'] at h5;exact absurd h5 (by decide))
   | (simp at h5;omega)
 cases hwl with
 | cons w1 w2=>
  cases w2
  cases w1 with
  | list ho hall=>exact ⟨_,_,ns,rfl,rfl,ho,zgB ns _ hall,hlen⟩
theorem zll (l:OpenLaw) (args:List WData):l.row.toRowW.claim.post args (.bool true) args=true:=
 postW_of (r:=l.row.toRowW) (X:=(true==true))
  (show WShape.has [] (.bool true) .bool=true by first | rfl | decide | simp[WShape.has,WShape.arms,WShape.armsAll])
  (show (WTm.eq .res (.lit (.bool true))).value [] { args:=args,res:=some (.bool true),after:=args }=some (.bool (true==true)) from w_eq_bool (w_res rfl) w_lit) rfl
theorem ziP {l:OpenLaw} {n:Nat} {q:Program} {loose:List Str} {XP:(Str->Option Value)->Heap->Prop} {YP:World->Heap->Prop} {d:DefRec}
  (hn:l.most=some n) (hdf:d.params.defaults=[])
  (call:∀(w:World) (s₀ s₁:Shared) (mg mb:Str->Option Value) (fa:Addr) (o:Obj) (pm cd doc:Value) (a:Addr) (vs:List Value) (ns:List Int),
   Ground q loose [] XP w s₀ mg mb s₁.heap->YP w s₁.heap->
   s₁.heap.get? fa=some o->o.data=.func (docDef d.name d.params d.body d.scope pm cd doc)->s₁.heap.CodeRec cd d.name->mg d.name=some (.ref fa)->
   s₁.heap.get? a=some { cls:=.type "list",data:=.seq vs.toArray }->IntsAre vs ns->ns.length<=n->s₁.gens=#[]->
   codeAny (model l.prog w) callerA (.call (.ref fa) ⟨[.ref a],[]⟩) (fun r s'=>r=.ok (.ret (.bool true))/\OldK s₁.heap s'.heap/\s'.os=s₁.os/\AllBare s'.gens) s₁) :
  WalkO q loose XP YP l.row.toRowW d [] (fun f vs=>PySem.call f vs):=by
 intro w s₀ s₁ mg mb G Y fa o pm cd doc dV kV ho hd hcd hD hmg hg args vals as hpre hlay hrd hwl hlo;obtain rfl:dV=.none:=Dflts.none hD hdf;obtain rfl:kV=.none:=Dflts.noKw hD;obtain ⟨a,vs,ns,rfl,rfl,hobj,hints,hlen⟩:=zlo hn hpre hwl;refine enter_call (codeAny_mono (call w s₀ s₁ mg mb fa o pm cd doc a vs ns G Y ho (fd_plain hd) hcd hmg hobj hints hlen hg) fun r s' hq=>?_);obtain ⟨rfl,h2,h3,h4⟩:=hq;exact ⟨.inl ⟨.bool true,.bool true,[],rfl,fun _=>rfl,.bool true,zll l _,fun _=>⟨List.Pairwise.nil,fun _ hm=>(nomatch hm)⟩⟩,h2,h3,h4⟩
section
variable {prog:Program} {w:World} {A:Around} {E:Value->Shared->Prop} {s:Shared} {K:Frag}
end
end Att
namespace L2
open PySem PySem.Spec PyProof.Rows
theorem zgI:∀{vs:List Value} {ns:List Int},IntsAre vs ns->Vals (ns.map V.int) vs
 | _,_,.nil=>.nil
 | _,_,.cons n t h=>.cons ⟨t,rfl⟩ (zgI h)
def Only (H:Hp):Prop:=∀b,H b=none\/∃o xs,H b=some (.frz o (.lst xs))
theorem znd {P:Program} {w:World} {K:PySem.W.Frag} {mg mb:Str->Option Value} {CX:CXT} {k:Nat} {fa a:Addr} {fd:FuncData} {x:Str} {sp:Sp} {s₁:Shared} {vs:List Value} {ns:List Int}
  (KX:K.In s₁.heap) (hns:s₁.heap.Ns mainGlobals mg) (hb:s₁.heap.Ns builtinsNs mb) (hbb:∀x:Str,x≠"__name__"->mb x=bootBuiltins x) (hlim:s₁.heap.NoLimit) (hg:s₁.gens=#[])
  (ha:s₁.heap.get? a=some { cls:=.type "list",data:=.seq vs.toArray }) (hi:IntsAre vs ns) (hl:ns.length<=sizeLine) (hr:Room k callerA)
  (F:∀base:Heap,K.In base->base.Ns mainGlobals mg->FnOk P w K mg base CX k fa fd [x] sp) (hbind:∀(s:Shared) (u:Value),BindsTo s fd ⟨[u],[]⟩ [(x,u)])
  (hsp:∀H:Hp,Only H->SqL K H a (ns.map V.int)->sp [.ref a] H (fun v _=>v=.bl true) fun _ _ _=>False)
  (hCX:∀H e s',CX [] H s₁ (fun _ _ _=>False) e s'->False) :
  codeAny (model P w) callerA (.call (.ref fa) ⟨[.ref a],[]⟩) (fun r s'=>r=.ok (.ret (.bool true))/\OldK s₁.heap s'.heap/\s'.os=s₁.os/\AllBare s'.gens) s₁:=by
 have rv:=zgI hi;have lenV:=hi.length
 -- from an abstract heap in which nothing but the script may be tracked
 have core:∀H:Hp,Only H->SqL K H a (ns.map V.int)->HOk P w H s₁.heap->(∀b,H b≠none->b=a)->(H a≠none->K.lookup a=none)->
   codeAny (model P w) callerA (.call (.ref fa) ⟨[.ref a],[]⟩) (fun r s'=>r=.ok (.ret (.bool true))/\OldK s₁.heap s'.heap/\s'.os=s₁.os/\AllBare s'.gens) s₁:=by
  intro H hO hS hok hA hK;have base_of:∀{b:Addr} {o:Obj},s₁.heap.get? b=some o->H b=none->(hidT s₁.heap H).get? b=some o:=fun e n=>zmT e n
  have noA:∀{b:Addr} {o:Obj} {es:Array DictEntry} {ep:Nat},s₁.heap.get? b=some o->o.data=.dict es ep->H b=none:=fun {b o es ep} e d=>by
   cases q:H b with
   | none=>rfl
   | some u=>
    have e':b=a:=hA b (by rw[q];simp);subst e';rw[ha] at e;cases e;have d':Data.seq vs.toArray _=Data.dict es ep:=d
    cases d'
  have nsK:∀{b:Addr} {m:Str->Option Value},s₁.heap.Ns b m->(hidT s₁.heap H).Ns b m:=fun {b m} ⟨o,es,ep,e,d,r⟩=>⟨o,es,ep,base_of e (noA e d),d,r⟩
  have hKb:K.In (hidT s₁.heap H):=fun b o e=>base_of (KX b o e) (by
   cases q:H b with
   | none=>rfl
   | some u=>
    have e':b=a:=hA b (by rw[q];simp);subst e';rw[hK (by rw[q];simp)] at e;cases e)
  have hM:Mod K mg (hidT s₁.heap H):=⟨hKb,nsK hns,⟨mb,nsK hb,hbb⟩,let ⟨mc,h1,h2⟩:=hlim;⟨mc,nsK h1,h2⟩⟩;have e0:Env0 P w K mg (hidT s₁.heap H) callerA [] s₁ H:=⟨rfl,hM,fun b o e=>znY e,Nat.le_of_eq (zma _ _),trivial,fun b hb=>absurd (show b∈([]:List Addr) from hb) (by simp),hok,.of_eq hg⟩;refine codeAny_mono ((F _ hKb (nsK hns)).run callerA [] s₁ H ⟨[.ref a],[]⟩ [.ref a] [.ref a] _ _ hr e0 (hbind s₁ (.ref a)) (.cons rfl .nil) (hsp H hO hS)) fun r s' h=>?_
  cases r with
  | error e=>exact (hCX H e s' h).elim
  | ok fl=>
   cases fl with
   | next=>exact False.elim h
   | brk=>exact False.elim h
   | cont=>exact False.elim h
   | ret u=>
    obtain ⟨v,H',os,bare,un,hok',r',q⟩:=h;have q':v=.bl true:=q;subst q';obtain rfl:u=Value.bool true:=r';refine ⟨rfl,OldK.of_keep fun b o e=>?_,os,bare⟩
    cases q:H b with
    | none=>exact un.keep b o e q (by intro z;exact absurd (show b∈([]:List Addr) from z) (by simp)) (by simp)
    | some u=>
     rcases hO b with z | ⟨ob,xs,z⟩
     .rw[q] at z;cases z
     .have z2:=un.frzs b ob _ z;obtain ⟨e1,_⟩:=hok b _ z;obtain ⟨e2,_⟩:=hok' b _ z2;rw[e] at e1;cases e1;exact e2
 cases hk:K.lookup a with
 | some o=>
  -- the script is one of the module's own objects
  have e:=KX a o hk;rw[ha] at e;cases e;refine core (fun _=>none) (fun _=>.inl rfl) (.inr ⟨_,vs.toArray,_,hk,rfl,rfl,rfl,by rw[List.size_toArray,lenV];exact hl,by simpa using rv⟩) (fun b u z=>by have z':(none:Option HO)=some u:=z;cases z') (fun b z=>absurd rfl z) fun z=>absurd rfl z
 | none=>
  refine core (fun b=>if b=a then some (.frz { cls:=.type "list",data:=.seq vs.toArray } (.lst (ns.map V.int))) else none) (fun b=>?_) (.inl (.inr ⟨{ cls:=.type "list",data:=.seq vs.toArray },if_pos rfl⟩)) (fun b u z=>?_) (fun b z=>?_) fun _=>hk
  .by_cases hb:b=a
   .exact .inr ⟨_,_,if_pos hb⟩
   .exact .inl (if_neg hb)
  .by_cases hb:b=a
   .have z':=(if_pos hb).symm.trans z
    cases z'
    subst hb;exact ⟨ha,by rw[List.length_map];exact hl,vs,_,rv,ha⟩
   .have z':=(if_neg hb).symm.trans z
    cases z'
  .by_cases hb:b=a
   .exact hb
   .exact absurd (if_neg hb) z
def zei (s:Stmt):Arguments:=match s with
 | .FunctionDef _ a _ _ _ _ _ _ _ _=>a
 | _=>{ posonlyargs:=[],args:=[],vararg:=none,kwonlyargs:=[],kw_defaults:=[],kwarg:=none,defaults:=[] }
def zcM (s:Stmt):List Stmt:=match s with
 | .FunctionDef _ _ b _ _ _ _ _ _ _=>b
 | _=>[]
def zam (s:Stmt):Scope:=match s with
 | .FunctionDef _ _ _ _ _ _ sc _ _ _=>sc
 | _=>{ kind:=.function,names:=[],isGenerator:=false,isCoroutine:=false }
abbrev CX0:CXT:=fun _ _ _ _ _ _=>False
structure Fun (K:PySem.W.Frag) (x qual:Str) (st:Stmt) (f:Addr) (fd:FuncData):Prop where
 ex:∃(oc:Value) (od:Option Addr) (kV doc pm:Value) (an:Option Addr) (cdv ct:Value) (osl:Array (Option Value)),
  fd=PySem.W.fnOf x qual (zei st) (zcM st) (zam st) .none kV doc pm an cdv ct/\K.lookup f=some ⟨oc,od,.func fd,osl⟩/\PySem.W.codeIn K cdv qual=true
 kp:PySem.W.keepIn K (.ref f)=true
section
variable {P:Program} {w:World} {K:PySem.W.Frag} {mg:Str->Option Value} {base:Heap}
theorem Fun.ok {x qual:Str} {st:Stmt} {f:Addr} {fd:FuncData} {N ps:List Str} {k:Nat} {sp:Sp} (F:Fun K x qual st f fd) (S:zay N ps (zam st)) (len:∀vs H Q E,sp vs H Q E->vs.length=ps.length)
  (hbody:∀(cdv:Value) (A:Around) (outer:List Env) (s:Shared) (H:Hp) (vs:List V) (Q:VK) (E:XK),Room k (A.deeper (envOfC qual (zam st) s.heap.objs.size f cdv))->sp vs H Q E->
   ∃t,PSs (cxOf CX0 P w K mg base N qual (zam st) f cdv A outer s H E).nox (zcM st) t/\t { nx:=fun _ H'=>Q .non H',rt:=Q } (start N vs) H):FnOk P w K mg base CX0 (k+1) f fd ps sp:=by
 obtain ⟨oc,od,kV,doc,pm,an,cdv,ct,osl,rfl,lk,hcd⟩:=F.ex;refine zqb lk hcd S len fun A outer s H vs Q E hr hsp=>?_
 obtain ⟨t,h,q⟩:=hbody cdv A outer s H vs Q E hr hsp;exact ⟨t,h.nox,q⟩
theorem Fun.binds {x qual:Str} {st:Stmt} {f:Addr} {fd:FuncData} {ps:List Str} (F:Fun K x qual st f fd)
  (h:∀(kV doc pm:Value) (an:Option Addr) (cdv ct:Value) (us:List Value),us.length=ps.length->bindArgs (PySem.W.fnOf x qual (zei st) (zcM st) (zam st) .none kV doc pm an cdv ct) ⟨us,[]⟩=pure (ps.zip us)):Binds K fd ps []:=by
 obtain ⟨oc,od,kV,doc,pm,an,cdv,ct,osl,rfl,lk,hcd⟩:=F.ex;exact .all (h kV doc pm an cdv ct)
end
section
variable {X:Cx}
theorem pv (i:Nat) {x:Str} {pos:Pos} (hN:X.N[i]? = some x:=by rfl) (hv:Vis X.env.scope x:=by first | exact Or.inl rfl | exact Or.inr (Or.inl rfl) | exact Or.inr (Or.inr rfl)) (hd:(x==("__debug__":Str))=false:=by decide)
  (hcd:(x==("__classdict__":Str))=false:=by decide):PE X (.Name x pos) (tVar i):=zqP hN hv hd hcd
end
def Same (H H':Hp):Prop:=∀b o,H b=some o->H' b=some o
theorem Same.refl (H:Hp):Same H H:=fun _ _ h=>h
end L2
set_option maxHeartbeats 4000000
namespace L2
open PySem PySem.Spec PyProof.Rows
def zeq (cells:List (Str×Addr)):List (Str×NameKind)->List (Str×Addr)->List (Str×Addr)
 | [],cs=>cs
 | (n,k)::r,cs=>zeq cells r (if (k==NameKind.free)=true then (match cells.lookup n with | some a=>(n,a)::cs | none=>cs) else cs)
theorem ziH (env:Env):∀(l:List (Str×NameKind)) (cs:List (Str×Addr)),(∀y∈l,y.2=.free->∃c,env.cells.lookup y.1=some c)->
  (forIn l cs fun x r=>match x with | (name,kind)=>if (kind==NameKind.free)=true then do let a <-cellOf env name;pure (ForInStep.yield ((name,a)::r)) else pure (ForInStep.yield r))=(pure (zeq env.cells l cs):Sem (List (Str×Addr)))
 | [],cs,_=>rfl
 | (n,k)::l,cs,h=>by
  have ih:=fun cs=>ziH env l cs fun y hy=>h y (List.mem_cons_of_mem _ hy)
  rw[List.forIn_cons];unfold zeq
  by_cases hk:k=.free
  .subst hk;obtain ⟨c,hc⟩:=h (n,.free) List.mem_cons_self rfl;have e:cellOf env n=pure c:=by unfold cellOf;rw[hc]
   simp only[beq_self_eq_true,if_true,e,hc,pure_bind];exact ih _
  .have hb:(k==NameKind.free)=false:=by simpa using hk
   simp only[hb,Bool.false_eq_true,if_false,pure_bind];exact ih _
theorem znG {scope:Scope} {env:Env} (h:∀y∈scope.names,y.2=.free->∃c,env.cells.lookup y.1=some c):closureFor scope env=pure (zeq env.cells scope.names []):=by
 unfold closureFor;simp only[bind_pure];exact ziH env scope.names [] h
theorem zjr (cells:List (Str×Addr)):∀(l:List (Str×NameKind)) (cs:List (Str×Addr)),(∀x c,cs.lookup x=some c->cells.lookup x=some c)->∀x c,(zeq cells l cs).lookup x=some c->cells.lookup x=some c
 | [],cs,h,x,c,e=>h x c e
 | (n,k)::l,cs,h,x,c,e=>by
  unfold zeq at e;refine zjr cells l _ ?_ x c e;intro y d q;split at q
  .cases hc:cells.lookup n with
   | none=>rw[hc] at q;exact h y d q
   | some a=>
    rw[hc] at q;simp only[List.lookup_cons] at q
    cases hy:y==n with
    | true=>
     rw[hy] at q
     have:y=n:=by simpa using hy
     subst this;rw[hc];exact q
    | false=>rw[hy] at q;exact h y d q
  .exact h y d q
theorem zjT (cells:List (Str×Addr)):∀(l:List (Str×NameKind)) (cs:List (Str×Addr)) (x:Str),(∃c,cs.lookup x=some c)->∃c,(zeq cells l cs).lookup x=some c
 | [],cs,x,h=>h
 | (n,k)::l,cs,x,h=>by
  unfold zeq;refine zjT cells l _ x ?_;split
  .split
   .simp only[List.lookup_cons];split
    .exact ⟨_,rfl⟩
    .exact h
   .exact h
  .exact h
theorem zjl (cells:List (Str×Addr)):∀(l:List (Str×NameKind)) (cs:List (Str×Addr)) (x:Str),(x,NameKind.free)∈l->(∃c,cells.lookup x=some c)->∃c,(zeq cells l cs).lookup x=some c
 | [],cs,x,h,_=>by simp at h
 | (n,k)::l,cs,x,h,hc=>by
  unfold zeq;rcases List.mem_cons.mp h with e | h
  .cases e;obtain ⟨c,hc⟩:=hc;simp only[beq_self_eq_true,if_true,hc];exact zjT cells l _ _ ⟨c,by simp[List.lookup_cons]⟩
  .exact zjl cells l _ x h hc
theorem zjR:∀(names:List (Str×NameKind)) (n:Nat) (acc:List (Str×Addr)) (x:Str) (c:Addr),(cellsFrom n names acc).lookup x=some c->acc.lookup x=some c\/n<=c
 | [],_,_,_,_,h=>.inl h
 | (y,k)::r,n,acc,x,c,h=>by
  unfold cellsFrom at h;split at h
  .rcases zjR r _ _ x c h with q | q
   .rw[List.lookup_cons] at q;split at q
    .cases q;exact .inr (Nat.le_refl _)
    .exact .inl q
   .exact .inr (Nat.le_of_succ_le q)
  .exact zjR r _ _ x c h
theorem zon {m:Nat}:∀(names:List (Str×NameKind)) (n:Nat) (acc:List (Str×Addr)) (x:Str) (c:Addr),m<=n->((∀d,acc.lookup x=some d->m<=d)\/names.lookup x=some .cell)->(cellsFrom n names acc).lookup x=some c->m<=c
 | [],_,_,_,_,_,q,h=>q.elim (fun q=>q _ h) fun q=>by cases q
 | (y,k)::r,n,acc,x,c,hm,q,h=>by
  unfold cellsFrom at h;rw[List.lookup_cons] at q;split at h
  .refine zon r _ _ x c (Nat.le_succ_of_le hm) ?_ h
   cases e:x==y with
   | true=>exact .inl fun d hd=>by rw[List.lookup_cons,e] at hd;cases hd;exact hm
   | false=>rw[e] at q;exact q.imp (fun q d hd=>by rw[List.lookup_cons,e] at hd;exact q d hd) id
  .rename_i hk;refine zon r _ _ x c hm (q.imp id fun q=>?_) h
   cases e:x==y with
   | true=>rw[e] at q;cases q;exact absurd rfl hk
   | false=>rw[e] at q;exact q
theorem zl2:∀(names:List (Str×NameKind)) (n:Nat) (acc:List (Str×Addr)),(∀x y c,acc.lookup x=some c->acc.lookup y=some c->x=y)->(∀x c,acc.lookup x=some c->c < n)->∀x y c,(cellsFrom n names acc).lookup x=some c->(cellsFrom n names acc).lookup y=some c->x=y
 | [],_,_,hi,_,x,y,c,h,h'=>hi x y c h h'
 | (z,k)::r,n,acc,hi,hl,x,y,c,h,h'=>by
  unfold cellsFrom at h h';split at h
  .rename_i hk;rw[if_pos hk] at h';refine zl2 r _ _ (fun x y c=>?_) (fun x c e=>?_) x y c h h'
   .rw[List.lookup_cons,List.lookup_cons]
    cases ex:x==z<;>cases ey:y==z
    .exact hi x y c
    .intro e e';cases e';exact absurd (hl _ _ e) (Nat.lt_irrefl _)
    .intro e e';cases e;exact absurd (hl _ _ e') (Nat.lt_irrefl _)
    .exact fun _ _=>(beq_iff_eq.mp ex).trans (beq_iff_eq.mp ey).symm
   .rw[List.lookup_cons] at e;split at e
    .cases e;exact Nat.lt_succ_self _
    .exact Nat.lt_succ_of_lt (hl _ _ e)
  .rename_i hk;rw[if_neg hk] at h';exact zl2 r _ _ hi hl x y c h h'
theorem znK:∀(names:List (Str×NameKind)) (n:Nat) (acc:List (Str×Addr)) (x:Str),(x,NameKind.cell)∉names->(cellsFrom n names acc).lookup x=acc.lookup x
 | [],_,_,_,_=>rfl
 | (y,k)::r,n,acc,x,h=>by
  unfold cellsFrom;have hr:=fun acc n=>znK r n acc x fun z=>h (List.mem_cons_of_mem _ z)
  split
  .rename_i hk
   have:k=.cell:=by simpa using hk
   subst this;rw[hr,List.lookup_cons]
   cases e:x==y with
   | true=>exact absurd (by rw[beq_iff_eq.mp e];exact List.mem_cons_self) h
   | false=>rfl
  .exact hr _ _
theorem zo9:∀(names:List (Str×NameKind)) (h:Heap) (acc:List (Str×Addr)) (x:Str) (c:Addr),(cellsFrom h.objs.size names acc).lookup x=some c->acc.lookup x=some c\/(pushCells h names).IsCell c none
 | [],_,_,_,_,e=>.inl e
 | (y,k)::r,h,acc,x,c,e=>by
  unfold cellsFrom at e;unfold pushCells;split at e
  .rename_i hk;rw[if_pos hk];rcases zo9 r (h.push { cls:=.type "cell",data:=.cell none }) ((y,h.objs.size)::acc) x c (by rw[Heap.size_push];exact e) with q | q
   .rw[List.lookup_cons] at q;split at q
    .cases q;exact .inr ⟨_,pushCells_keeps _ _ _ _ (Heap.get?_push_size _ rfl),rfl⟩
    .exact .inl q
   .exact .inr q
  .rename_i hk;rw[if_neg hk];exact zo9 r _ _ x c e
theorem zoL {M:Model} {A:Around} {E:Value->Shared->Prop} {s:Shared} {scope:Scope} {globals:Addr} {closure:List (Str×Addr)} {qual:Str} {func:Option Addr} {code:Value} {outer:Env} {builtins:Addr} {Q:Env->Shared->Prop}
  (hQ:Q (newEnv scope s.heap.objs.size globals (cellsFrom (s.heap.objs.size+1) scope.names closure) qual func code (some outer) builtins) { s with heap:=pushCells (s.heap.push { cls:=.type "dict",data:=.dict #[] }) scope.names }) :
  wpAny M A (newFunctionEnv scope globals closure [] qual func code (some outer) builtins) Q E s:=by
 simp only[newFunctionEnv,Option.isSome_some,if_true];refine wpAny_bind (wpAny_alloc ?_);refine wpAny_bind (wpAny_layCells _ (fun name kind cells=>by cases hkc:kind==NameKind.cell<;>simp[hkc]) _ _ _ _ ?_);rw[show ({ s with heap:=s.heap.push { cls:=.type "dict",data:=.dict #[] } }:Shared).heap.objs.size=s.heap.objs.size+1 from Heap.size_push ..];refine wpAny_bind ?_;rw[List.forIn_nil];exact wpAny_pure (wpAny_pure hQ)
def blk (X:Cx) (N':List Str) (scope:Scope) (s:Shared) (H:Hp) (ex:List Addr):Cx:=
 { X with N:=N',s₀:=s,H₀:=H,env:=compEnvC scope (cellsFrom (s.heap.objs.size+1) scope.names (zeq X.env.cells scope.names [])) s.heap.objs.size X.env,outer:=X.stack,stack:=X.stack,ex:=ex,fn:=fun x=>decide (scope.names.lookup x=some .cell),pn:=[],xe:=fun _ _=>False }
def pick (σ:St) (js:List (Option Nat)):St:=js.map fun j=>match j with | none=>none | some i=>(σ[i]?).getD none
def zh1 (N:List Str) (sc:Scope) (N':List Str) (scope:Scope) (js:List (Option Nat)):Bool:=
 (N'.length==js.length)&&(N'.zip js).all fun p=>match p.2 with
  | none=>true
  | some i=>decide (N[i]? = some p.1)&&(decide (sc.names.lookup p.1=some .cell) || decide (sc.names.lookup p.1=some .free))&&decide (scope.names.lookup p.1=some .free)
def zfn (sc scope:Scope):Bool:=scope.names.all fun y=>((y.2 != .cell) || decide (scope.names.lookup y.1=some .cell))&&((y.2 != .free) || (decide (sc.names.lookup y.1=some .cell) || decide (sc.names.lookup y.1=some .free)))&&((y.2 != .local) || decide (scope.names.lookup y.1=some .local))
theorem zeC {env:Env} {x:Str} {k:NameKind}:∀{names:List (Str×NameKind)},
  (names.map fun (n,k)=>if (k==NameKind.free&&env.scope.kind==.function&&env.kindOf n==some .cell) then (n,NameKind.cell) else (n,k)).lookup x=some k->
  names.lookup x=some k\/(names.lookup x=some .free/\k=.cell)
 | [],h=>by simp at h
 | (n,j)::r,h=>by
  have ih:=@zeC env x k r;simp only[List.map_cons] at h
  by_cases hc:(j==NameKind.free&&env.scope.kind==.function&&env.kindOf n==some .cell)=true
  .rw[if_pos hc] at h;have hj:j=.free:=by
    have:=(Bool.and_eq_true _ _).mp ((Bool.and_eq_true _ _).mp hc).1
    simpa using this.1
   subst hj
   cases hx:x==n with
   | true=>
    simp only[List.lookup_cons,hx] at h ⊢;cases h;exact .inr (by simp)
   | false=>
    simp only[List.lookup_cons,hx] at h ⊢;exact ih h
  .rw[if_neg hc] at h
   cases hx:x==n with
   | true=>simp only[List.lookup_cons,hx] at h ⊢;exact .inl h
   | false=>simp only[List.lookup_cons,hx] at h ⊢;exact ih h
theorem zfX {env:Env} {x:Str}:∀{names:List (Str×NameKind)},names.lookup x=some .free->
  (names.map fun (n,k)=>if (k==NameKind.free&&env.scope.kind==.function&&env.kindOf n==some .cell) then (n,NameKind.cell) else (n,k)).lookup x=some .cell\/
  (names.map fun (n,k)=>if (k==NameKind.free&&env.scope.kind==.function&&env.kindOf n==some .cell) then (n,NameKind.cell) else (n,k)).lookup x=some .free
 | [],h=>by simp at h
 | (n,j)::r,h=>by
  have ih:=@zfX env x r;simp only[List.map_cons]
  cases hx:x==n with
  | true=>
   simp only[List.lookup_cons,hx] at h;cases h
   by_cases hc:(NameKind.free==NameKind.free&&env.scope.kind==.function&&env.kindOf n==some .cell)=true
   .rw[if_pos hc];exact .inl (by simp[List.lookup_cons,hx])
   .rw[if_neg hc];exact .inr (by simp[List.lookup_cons,hx])
  | false=>
   simp only[List.lookup_cons,hx] at h
   by_cases hc:(j==NameKind.free&&env.scope.kind==.function&&env.kindOf n==some .cell)=true
   .rw[if_pos hc];simp only[List.lookup_cons,hx];exact ih h
   .rw[if_neg hc];simp only[List.lookup_cons,hx];exact ih h
section
variable {X:Cx} {pins:List (Addr×Obj)} {σ:St} {H H':Hp} {s:Shared}
theorem Inv.adopt {l : Addr} {o : HO} (I : Inv X pins σ H s) (hn : H l = none) (hL : l ≠ X.env.locals) (h1 : l ∈ X.ex \/ X.s₀.heap.objs.size <= l)
    (h2 : ∀ x c, X.env.cells.lookup x = some c -> c ≠ l) (h3 : ∀ p ∈ X.pn ++ pins, p.1 ≠ l) (new : ObjOk X.prog X.w (upd H l o) s.heap l o) : Inv X pins σ (upd H l o) s := by
  have nl : ∀ b u, H b = some u -> b ≠ l := fun b u e z => by rw [z, hn] at e; cases e
  have := I.step (H' := upd H l o) (h' := s.heap) (g' := s.gens) (t' := s.toks) (d' := s.drawn) (ch := [l])
    (fun b hb => by have e : b = l := by simpa using hb
                    subst e; exact ⟨h1, hL, h2, h3⟩)
    (fun b o _ _ _ e _ => e) (fun b o _ _ _ e _ => ⟨o.slots, e⟩) (fun b o hc e n => by rw [zaJ (fun z => hc (by simp [z]))]; exact n) (fun b o _ e => ⟨o, e⟩)
    (fun b xs e => by rw [zaJ (nl b _ e)]; exact e) (fun b o u e => by rw [zaJ (nl b _ e)]; exact e) (fun b ps e => ⟨#[], by rw [zaJ (nl b _ e), e]; simp⟩) (fun m hm => hm)
    (fun b u e => by
      by_cases hb : b = l
      . subst hb; rw [zbG] at e; cases e; exact new
      . rw [zaJ hb] at e
        exact (I.hok b u e).stay (fun c v _ q => q) (fun c q => by rw [zaJ (nl c _ q)]; exact q) fun c xs q => by rw [zaJ (nl c _ q)]; exact q) I.bare
  exact this
end
section
variable {prog:Program} {w:World} {A:Around} {R:Result->Shared->Prop} {s:Shared}
theorem ziK {elt target iter:Expr} {ifs:List Expr} {scope:Scope} {pos:Pos} {it acc:Value} {env:Env} (I:Nat->Shared->Prop)
  (turn:∀n s,I n s->wpAny (model prog w) A (pyNext it) (fun r s₁=>match r with
   | none=>R (.ok .next) s₁
   | some v=>wpAny (model prog w) A (letOwnedTupleGo target it v) (fun _ s₁'=>wpAny (model prog w) A (assign target env v) (fun _ s₂=>
     wpAny (model prog w) A (forIn ifs true fun c r=>if r=true then do let ok <-isTrue c env (eval c env);pure (ForInStep.yield ok) else pure (ForInStep.yield r)) (fun ok s₃=>
      if ok=true then wpAny (model prog w) A (eval elt env) (fun x s₄=>
       wpAny (model prog w) A (call (.builtin "list.append") [acc,x]) (fun _ s₅=>∃m,m < n/\I m s₅) (fun _ _=>False) s₄) (fun _ _=>False) s₃
      else ∃m,m < n/\I m s₃) (fun _ _=>False) s₂) (fun _ _=>False) s₁') (fun _ _=>False) s₁) (fun _ _=>False) s)
  (n:Nat) (h:I n s) :
  codeAny (model prog w) A (.compLoop (.ListComp elt [⟨target,iter,ifs,0⟩] scope pos) 0 it acc env) R s:=by
 refine codeAny_loop rfl I (fun n s hI=>?_) n h
 show wpAny _ A ((compTurn (.ListComp elt [⟨target,iter,ifs,0⟩] scope pos) 0 it acc env).onRaise (fun x=>do noteFrame x env;theTreesLotGoes x)) _ _ s
 refine wpAny_noted ?_;rw[compTurn_list];refine wpAny_bind (wpAny_standAt (wpAny_bind (wpAny_mono (turn n s hI) (fun r s₁ h₁=>?_) fun _ _ h'=>h'.elim)))
 cases r with
 | none=>exact wpAny_pure h₁
 | some v=>
  refine wpAny_bind (wpAny_mono h₁ (fun _ s₁' h₁'=>?_) fun _ _ h'=>h'.elim);refine wpAny_bind (wpAny_mono h₁' (fun _ s₂ h₂=>wpAny_bind (wpAny_mono h₂ (fun ok s₃ h₃=>?_) fun _ _ h'=>h'.elim)) fun _ _ h'=>h'.elim)
  cases ok with
  | false=>exact wpAny_pure ⟨rfl,h₃⟩
  | true=>
   exact wpAny_bind (wpAny_bind (wpAny_mono h₃ (fun x s₄ h₄=>wpAny_bind (wpAny_mono h₄ (fun _ s₅ h₅=>wpAny_pure (wpAny_pure ⟨rfl,h₅⟩)) fun _ _ h'=>h'.elim)) fun _ _ h'=>h'.elim))
end
def PF (X:Cx) (ifs:List Expr) (t:TT):Prop:=
 ∀(pins:List (Addr×Obj)) (s:Shared) (σ:St) (H:Hp) (Q:Bool->Hp->Prop),Inv X pins σ H s->t σ H Q->
  wpAny (model X.prog X.w) X.A (forIn ifs true fun c r=>if r=true then do let ok <-isTrue c X.env (eval c X.env);pure (ForInStep.yield ok) else pure (ForInStep.yield r)) (TP X pins σ Q) X.xe s
def tYes:TT:=fun _ H Q=>Q true H
theorem zrM {X:Cx}:PF X [] tYes:=fun _ _ _ H _ I h=>wpAny_tests_nil ⟨H,I,h⟩
def lcGo (J:It) (js:List (Option Nat)) (g:TG) (tt:TT) (te:TE) (σ:St) (H1:Hp) (Q:VK):Prop:=
 ∃W:Nat->Nat->List V->Hp->Prop,(∃m,W 0 m [] H1)/\∀i m acc H,W i m acc H->
  (J.stop i H/\acc.length<=sizeLine/\∀l,H l=none->Q (.ref l) (upd H l (.lst acc)))\/
  (J.go i H/\acc.length < sizeLine/\∀x H',J.yld i H x H'->g x (pick σ js) H' fun σ2 H2=>tt σ2 H2 fun b H3=>
   if b=true then te σ2 H3 fun v H4=>∃m',m' < m/\W (i+1) m' (acc++[v]) H4 else ∃m',m' < m/\W (i+1) m' acc H3)
def tLC (wi:TI) (js:List (Option Nat)) (g:TG) (tt:TT) (te:TE):TE:=fun σ H Q=>wi σ H fun J H1=>lcGo J js g tt te σ H1 Q
section
variable {X:Cx} {elt tgt iter:Expr} {ifs:List Expr} {scope:Scope} {pos:Pos} {N':List Str} {js:List (Option Nat)} {wi:TI} {g:TG} {tt:TT} {te:TE}
theorem zp4 {pins:List (Addr×Obj)} {σ:St} {H:Hp} {s:Shared} {ex:List Addr} (I:Inv X pins σ H s) (hk:scope.kind=.function) (hf:zfn X.env.scope scope=true)
  (hex:∀b∈ex,(b∈X.ex\/X.s₀.heap.objs.size<=b)/\b≠X.env.locals/\b∉X.fs/\(∀x c,X.env.cells.lookup x=some c->c≠b)/\b < s.heap.objs.size):(blk X N' scope s H ex).Ok:=by
 have hf':∀y∈scope.names,(y.2=.cell->scope.names.lookup y.1=some .cell)/\(y.2=.free->X.env.scope.names.lookup y.1=some .cell\/X.env.scope.names.lookup y.1=some .free):=fun y hy=>by
  have:=List.all_eq_true.mp hf y hy
  simp only[Bool.and_eq_true,Bool.or_eq_true,bne_iff_ne,ne_eq,decide_eq_true_eq] at this;exact ⟨fun e=>this.1.1.resolve_left fun z=>z e,fun e=>this.1.2.resolve_left fun z=>z e⟩
 have sub:=zjr X.env.cells scope.names [] (by simp);have cl:∀x c,(zeq X.env.cells scope.names []).lookup x=some c->c < s.heap.objs.size:=fun x c e=>by
  obtain ⟨v,q⟩:=I.cell x c (sub x c e);exact q.lt
 refine ⟨I.ok.mod,hk,I.ok.glob,I.ok.blt,Nat.le_refl _,zl2 _ _ _ (fun x y c h1 h2=>?_) (fun x c e=>Nat.lt_succ_of_lt (cl x c e)),fun x hx=>?_,fun x c h e=>?_,I.ok.hd,I.ok.frames,.inl rfl,fun b hb=>?_,I.bs,Nat.le_trans I.ok.bsz I.sz,fun b o e hb=>?_,fun b hb hb'=>?_,I.stack,I.stkFree⟩
 .exact I.ok.inj x y c (sub x c h1) (sub y c h2)
 .have hfree:scope.names.lookup x=some .cell\/scope.names.lookup x=some .free:=by
   have hx:((scope.names.map fun (n,k)=>if (k==NameKind.free&&X.env.scope.kind==.function&&X.env.kindOf n==some .cell) then (n,NameKind.cell) else (n,k)).lookup x=some .cell)\/
    ((scope.names.map fun (n,k)=>if (k==NameKind.free&&X.env.scope.kind==.function&&X.env.kindOf n==some .cell) then (n,NameKind.cell) else (n,k)).lookup x=some .free):=hx
   rcases hx with hx | hx
   .exact (zeC hx).imp id fun z=>z.1
   .exact (zeC hx).elim .inr fun z=>.inr z.1
  refine Option.isSome_iff_exists.mp (PySem.W.cellsFrom_some _ _ _ (hfree.imp id fun hfree=>?_));have hm:=PySem.mem_of_lookup hfree;obtain ⟨c,hc⟩:=I.ok.has x ((hf' _ hm).2 rfl);exact Option.isSome_iff_exists.mpr (zjl X.env.cells scope.names [] x hm ⟨c,hc⟩)
 .exact zon _ _ _ x c (Nat.le_succ _) (.inr (of_decide_eq_true h)) e
 .obtain ⟨h1,h2,h3,h4,h5⟩:=hex b hb;exact ⟨Nat.ne_of_lt h5,fun x c e=>(zjR _ _ _ x c e).elim (fun e=>h4 x c (sub x c e)) fun e=>Nat.ne_of_gt (Nat.lt_of_lt_of_le (Nat.lt_succ_of_lt h5) e)⟩
 .obtain ⟨h1,h2,h3,h4,h5⟩:=hex b hb;rcases h1 with z | z
  .exact I.ok.noex b o e z
  .exact absurd (Nat.lt_of_lt_of_le (Heap.lt_size e) (Nat.le_trans I.ok.bsz z)) (Nat.lt_irrefl _)
 .obtain ⟨h1,h2,h3,h4,h5⟩:=hex b hb;rcases List.mem_cons.mp (I.stkSub b hb') with e | z
  .exact h2 e
  .exact h3 z
end
section
variable {X:Cx} {elt tgt iter:Expr} {ifs:List Expr} {scope:Scope} {pos:Pos} {N':List Str} {js:List (Option Nat)} {g:TG} {tt:TT} {te:TE}
structure FrC (X:Cx) (pins:List (Addr×Obj)) (H:Hp) (C:Addr):Prop where
 no:H C=none
 ne:C≠X.env.locals
 up:X.s₀.heap.objs.size<=C
 cl:∀x c,X.env.cells.lookup x=some c->c≠C
 pn:∀p∈X.pn++pins,p.1≠C
theorem FrC.turned {pins:List (Addr×Obj)} {σ:St} {H:Hp} {s:Shared} {C:Addr} {h':Heap} (F:FrC X pins H C) (I:Inv X pins σ H s) (hs:Heap.SameBut C s.heap h'):Inv X pins σ H { s with heap:=h' }:=
 I.turned (t':=s.toks) (fun b o hb e=>(hs.2 b hb).trans e) F.no F.ne (.inr F.up) F.cl F.pn
def GK (js:List (Option Nat)) (g:TG):Prop:=∀v σ H Q,g v σ H Q->g v σ H fun σ2 H2=>Q σ2 H2/\∀(i j:Nat),js[i]? = some (some j)->σ2[i]? = σ[i]?
theorem zjE {σ:St}:(pick σ js).length=js.length:=by unfold pick;rw[List.length_map]
theorem zj8 {pins:List (Addr×Obj)} {σ:St} {H:Hp} {s:Shared} {it:Addr} {fp:List Addr} {tn:Nat->Heap->Prop} {J:It} {Q:VK} {E:Value->Shared->Prop} {RR:Value->Addr->Result->Shared->Prop}
  (hc:X.calm=true) (hkind:scope.kind=.function) (hf:zfn X.env.scope scope=true) (hcap:zh1 X.N X.env.scope N' scope js=true) (hgk:GK js g)
  (I:Inv X pins σ H s) (T:Turn X.prog X.w X.K tgt J fp it tn) (st:tn 0 s.heap) (hfp:∀b∈fp,FpOk X pins H b) (h:lcGo J js g tt te σ H Q)
  (hb:∀(s':Shared) (H':Hp) (ex:List Addr),PG (blk X N' scope s' H' ex) tgt g/\PF (blk X N' scope s' H' ex) ifs tt/\PE (blk X N' scope s' H' ex) elt te)
  (hRR:∀(l C:Addr) (s':Shared) (m':Str->Option Value) (H':Hp) (acc:List V),Inv X pins σ (upd H' l (.lst acc)) s'->s'.heap.Ns C m'->FrC X pins (upd H' l (.lst acc)) C->Q (.ref l) (upd H' l (.lst acc))->RR (.ref l) C (.ok .next) s') :
  wpAny (model X.prog X.w) X.A (newList []) (fun acc s₃=>wpAny (model X.prog X.w) X.A (newFunctionEnv scope X.env.globals (zeq X.env.cells scope.names []) [] X.env.qual none .none (some X.env)) (fun cenv s₄=>
   codeAny (model X.prog X.w) X.A (.compStart (.ListComp elt [⟨tgt,iter,ifs,0⟩] scope pos) 0 (.ref it) acc { cenv with scope:=relabel scope X.env }) (RR acc cenv.locals) s₄) E s₃) E s:=by
 have hz0:(([]:List V)).length<=sizeLine:=Nat.zero_le _;refine wpAny_newObj_type (zoL ?_);dsimp only
 -- the maker,the new list laid untracked
 have I3:Inv X pins σ H { s with heap:=s.heap.push { cls:=.type "list",dict:=none,data:=.seq ([]:List Value).toArray } }:=I.kept (t':=s.toks) fun b o e=>Heap.get?_push_of_some _ e
 have hl3:(s.heap.push { cls:=.type "list",dict:=none,data:=.seq ([]:List Value).toArray }).get? s.heap.objs.size=some { cls:=.type "list",dict:=none,data:=.seq ([]:List Value).toArray }:=Heap.get?_push_size _ rfl;have old3:∀b o,s.heap.get? b=some o->(s.heap.push { cls:=.type "list",dict:=none,data:=.seq ([]:List Value).toArray }).get? b=some o:=fun b o e=>Heap.get?_push_of_some _ e
 have sz3:(s.heap.push { cls:=.type "list",dict:=none,data:=.seq ([]:List Value).toArray }).objs.size=s.heap.objs.size+1:=Heap.size_push ..;generalize (s.heap.push { cls:=.type "list",dict:=none,data:=.seq ([]:List Value).toArray })=H3 at *;generalize hs3:({ s with heap:=H3 }:Shared)=s3 at *;have hh3:s3.heap=H3:=by rw[<-hs3]
 have hl:H s.heap.objs.size=none:=I.hok.fresh (Nat.le_refl _);have fplt:∀b∈fp,b < s.heap.objs.size:=fun b hb=>by obtain ⟨o,e,_⟩:=T.obj _ _ st b hb;exact Heap.lt_size e
 have lL:s.heap.objs.size≠X.env.locals:=Nat.ne_of_gt I.lt;have lfs:s.heap.objs.size∉X.fs:=I.nofs (Nat.le_refl _);have lc:∀x c,X.env.cells.lookup x=some c->c≠s.heap.objs.size:=fun x c e=>by obtain ⟨v,q⟩:=I.cell x c e;exact Nat.ne_of_lt q.lt
 have lp:∀p∈X.pn++pins,p.1≠s.heap.objs.size:=fun p hp=>Nat.ne_of_lt (Heap.lt_size (I.pin p hp).1)
 have hex:∀b∈s.heap.objs.size::fp,(b∈X.ex\/X.s₀.heap.objs.size<=b)/\b≠X.env.locals/\b∉X.fs/\(∀x c,X.env.cells.lookup x=some c->c≠b)/\b < s3.heap.objs.size:=fun b hb=>by
  rw[hh3,sz3];rcases List.mem_cons.mp hb with e | hb
  .rw[e];exact ⟨.inr I.sz,lL,lfs,lc,Nat.lt_succ_self _⟩
  .obtain ⟨f0,f1,f2,f3,f4,f5⟩:=hfp b hb;exact ⟨f3,f1,f2,f4,Nat.lt_succ_of_lt (fplt b hb)⟩
 have hexp:∀b∈s.heap.objs.size::fp,∀p∈X.pn++pins,p.1≠b:=fun b hb=>by
  rcases List.mem_cons.mp hb with e | hb
  .rw[e];exact lp
  .exact (hfp b hb).2.2.2.2.2
 -- the block
 have OK:(blk X N' scope s3 H (s.heap.objs.size::fp)).Ok:=zp4 I3 hkind hf hex;have clsub:=zjr X.env.cells scope.names [] (by simp);have cown:∀x c,(cellsFrom (s3.heap.objs.size+1) scope.names (zeq X.env.cells scope.names [])).lookup x=some c->X.env.cells.lookup x=some c\/s3.heap.objs.size+1<=c:=fun x c e=>(zjR _ _ _ x c e).imp (clsub x c) id
 have eC:H3.objs.size=s3.heap.objs.size:=by rw[hh3]
 have keep1:∀b o,s3.heap.get? b=some o->(pushCells (H3.push { cls:=.type "dict",data:=.dict #[] }) scope.names).get? b=some o:=fun b o e=>pushCells_keeps _ _ b o (Heap.get?_push_of_some _ (by rw[<-hh3];exact e))
 have atC:∀x c,(cellsFrom (s3.heap.objs.size+1) scope.names (zeq X.env.cells scope.names [])).lookup x=some c->X.env.cells.lookup x=some c\/(pushCells (H3.push { cls:=.type "dict",data:=.dict #[] }) scope.names).IsCell c none:=fun x c e=>
  (zo9 scope.names (H3.push { cls:=.type "dict",data:=.dict #[] }) _ x c (by rw[Heap.size_push,eC];exact e)).imp (clsub x c) id
 have hns₁:(pushCells (H3.push { cls:=.type "dict",data:=.dict #[] }) scope.names).Ns s3.heap.objs.size fun _=>none:=by
  rw[<-eC];exact (Heap.Ns.new H3 (.type "dict")).keeps (pushCells_keeps _ _)
 generalize pushCells (H3.push { cls:=.type "dict",data:=.dict #[] }) scope.names=h₁ at *;have capL:N'.length=js.length:=by
  have:=(Bool.and_eq_true _ _).mp hcap
  simpa using this.1
 have capA:∀(i:Nat) (x:Str) (v:V),N'[i]? = some x->(pick σ js)[i]? = some (some v)->∃i0,σ[i0]? = some (some v)/\X.N[i0]? = some x/\(X.env.scope.names.lookup x=some .cell\/X.env.scope.names.lookup x=some .free)/\scope.names.lookup x=some .free:=fun i x v e1 e2=>by
  have ha:=List.all_eq_true.mp ((Bool.and_eq_true _ _).mp hcap).2;unfold pick at e2;rw[List.getElem?_map] at e2
  cases ej:js[i]? with
  | none=>rw[ej] at e2;cases e2
  | some j=>
   rw[ej] at e2;have hm:(x,j)∈N'.zip js:=List.mem_of_getElem? (i:=i) (by rw[List.getElem?_zip_eq_some];exact ⟨e1,ej⟩);have hp:=ha _ hm
   cases j with
   | none=>simp at e2
   | some i0=>
    simp only[Bool.and_eq_true,Bool.or_eq_true,decide_eq_true_eq] at hp;refine ⟨i0, ?_,hp.1.1,hp.1.2,hp.2⟩;simp only[Option.map_some,Option.some.injEq] at e2
    cases q:σ[i0]? with
    | none=>rw[q] at e2;simp at e2
    | some z=>rw[q] at e2;simp at e2;rw[e2]
 have Cf:∀{H':Hp} {s':Shared},HOk X.prog X.w H' s'.heap->s'.heap.objs.size<=s3.heap.objs.size->H' s3.heap.objs.size=none:=fun ok z=>ok.fresh z
 have I4:Inv (blk X N' scope s3 H (s.heap.objs.size::fp)) [(s.heap.objs.size,{ cls:=.type "list",dict:=none,data:=.seq ([]:List Value).toArray })] (pick σ js) H { s3 with heap:=h₁ }:=by
  refine ⟨OK,rfl,I3.bare,Un.kept keep1,⟨_,hns₁,fun i x v e1 e2 e3=>?_⟩,fun x c e=>?_,I3.hok.fresh (Nat.le_refl _),fun x c e=>(cown x c e).elim (I.freeC x c) fun q=>I3.hok.fresh (Nat.le_of_succ_le q),fun p hp=>?_,I3.hok.kept keep1, ?_⟩
  .obtain ⟨i0,q1,q2,q3,q4⟩:=capA i x v e1 e2;obtain ⟨m,hn,hlo⟩:=I3.loc;obtain ⟨u,r,lk⟩:=hlo i0 x v q2 q1 (.inr q3);refine ⟨u,r,.inr ?_⟩;have hk':X.env.kindOf x=some .cell\/X.env.kindOf x=some .free:=q3;rcases lk with ⟨k,_⟩ | ⟨_,c,hcc,hcell'⟩
   .rcases hk' with z | z<;>(rw[z] at k;cases k)
   .obtain ⟨c',hc'⟩:=zjl X.env.cells scope.names [] x (PySem.mem_of_lookup q4) ⟨c,hcc⟩
    have:c'=c:=Option.some.inj ((clsub x c' hc').symm.trans hcc)
    subst this;refine ⟨?_,c',(znK _ _ _ x fun z=>by
      have z1:=List.all_eq_true.mp hf _ z;simp only[Bool.and_eq_true,Bool.or_eq_true,bne_iff_ne,ne_eq,decide_eq_true_eq] at z1;have z2:=z1.1.1.resolve_left fun z=>z trivial
      rw[q4] at z2;cases z2).trans hc', ?_⟩
    .rcases zfX (env:=X.env) q4 with z | z
     .exact .inl z
     .exact .inr z
    .obtain ⟨o,e,d⟩:=hcell';exact ⟨o,keep1 _ _ e,d⟩
  .rcases atC x c e with e | e
   .obtain ⟨v,o,e',d⟩:=I3.cell x c e;exact ⟨v,o,keep1 _ _ e',d⟩
   .exact ⟨_,e⟩
  .have e:p=(s.heap.objs.size,{ cls:=.type "list",dict:=none,data:=.seq ([]:List Value).toArray }):=by simpa [blk] using hp
   subst e;refine ⟨keep1 _ _ (by rw[hh3];exact hl3),hl, ?_, ?_,fun v z=>by cases z⟩
   .show s.heap.objs.size≠s3.heap.objs.size
    rw[hh3,sz3];exact Nat.ne_of_lt (Nat.lt_succ_self _)
   .exact fun z=>by
     rcases List.mem_cons.mp (I.stkSub _ z) with e | z
     .exact lL e
     .exact lfs z
  .rw[zjE];exact capL.symm
 obtain ⟨W,⟨m0,w0⟩,turn⟩:=h;have stat:∀{ob:Obj} {H':Hp},(∀b∈fp,H' b=none)->∀b∈fp,FpOk (blk X N' scope s3 H (s.heap.objs.size::fp)) [(s.heap.objs.size,ob)] H' b:=fun {ob H'} hn b hb=>by
  obtain ⟨f0,f1,f2,f3,f4,f5⟩:=hfp b hb;refine ⟨hn b hb, ?_,fun z=>?_,.inl (List.mem_cons_of_mem _ hb),fun x c e=>(cown x c e).elim (f4 x c) fun q=>Nat.ne_of_gt (Nat.lt_of_lt_of_le (Nat.lt_succ_of_lt (by rw[hh3,sz3];exact Nat.lt_succ_of_lt (fplt b hb))) q),fun p hp=>?_⟩
  .show b≠s3.heap.objs.size
   rw[hh3,sz3];exact Nat.ne_of_lt (Nat.lt_succ_of_lt (fplt b hb))
  .rcases List.mem_cons.mp (I.stkSub _ z) with e | z
   .exact f1 e
   .exact f2 z
  .have e:p=(s.heap.objs.size,ob):=by simpa [blk] using hp
   subst e;exact Nat.ne_of_gt (fplt b hb)
 have loop:∀s₅:Shared,s₅={ s3 with heap:=h₁ }->
   codeAny (model X.prog X.w) X.A (.compLoop (.ListComp elt [⟨tgt,iter,ifs,0⟩] scope pos) 0 (.ref it) (.ref s.heap.objs.size) (compEnvC scope (cellsFrom (s3.heap.objs.size+1) scope.names (zeq X.env.cells scope.names [])) s3.heap.objs.size X.env))
    (RR (.ref s.heap.objs.size) s3.heap.objs.size) s₅:=by
  rintro s₅ rfl
  refine ziK (fun n s'=>∃(i:Nat) (acc:List V) (its:List Value) (k:Nat) (H':Hp),Vals acc its/\Inv (blk X N' scope s3 H (s.heap.objs.size::fp)) [(s.heap.objs.size,{ cls:=.type "list",data:=.seq its.toArray k })] (pick σ js) H' s'/\
   tn i s'.heap/\(∀b∈fp,H' b=none)/\W i n acc H') ?_ m0 ⟨0,[],[],0,H,.nil,I4,T.keep _ _ _ st (fun b hb o e=>keep1 b o (by rw[hh3];exact old3 b o e)),fun b hb=>(hfp b hb).1,w0⟩
  rintro n s' ⟨i,acc,its,k,H',rv,J1,st1,fr1,w1⟩
  rcases turn i n acc H' w1 with ⟨stop,hz,qn⟩ | ⟨go,hz,step⟩
  .refine thn (T.done (blk X N' scope s3 H (s.heap.objs.size::fp)) rfl rfl rfl hc i _ s' _ H' (fun _ _=>False) J1 (stat fr1) st1 stop) fun r s4 hx__=>?_
   obtain ⟨hr,I5⟩:=hx__;subst hr;obtain ⟨pe,pn,_⟩:=I5.pin (s.heap.objs.size,{ cls:=.type "list",data:=.seq its.toArray k }) (by simp[blk]);have IX:Inv X pins σ H' s4:=I3.call' I5.os I5.base I5.hok I5.bare fun b hb=>by
    obtain ⟨h1,h2,h3,h4,h5⟩:=hex b hb;exact ⟨h1,h2,h4,hexp b hb⟩
   have IY:Inv X pins σ (upd H' s.heap.objs.size (.lst acc)) s4:=IX.adopt pn lL (.inr I.sz) lc lp ⟨hz,its,k,rv,pe⟩;obtain ⟨m',hm',_⟩:=I5.loc;refine hRR _ _ s4 m' H' acc IY hm' ⟨?_, ?_, ?_, ?_, ?_⟩ (qn _ pn)
   .rw[zaJ (by rw[hh3,sz3];exact Nat.ne_of_gt (Nat.lt_succ_self _))];exact I5.free
   .rw[hh3,sz3];exact Nat.ne_of_gt (Nat.lt_succ_of_lt I.lt)
   .rw[hh3,sz3];exact Nat.le_succ_of_le I.sz
   .exact fun x c e=>by
     obtain ⟨v,q⟩:=I.cell x c e;rw[hh3,sz3];exact Nat.ne_of_lt (Nat.lt_succ_of_lt q.lt)
   .exact fun p hp=>by rw[hh3,sz3];exact Nat.ne_of_lt (Nat.lt_succ_of_lt (Heap.lt_size (I.pin p hp).1))
  .refine thn (T.item (blk X N' scope s3 H (s.heap.objs.size::fp)) rfl rfl rfl hc i _ s' _ H' (fun _ _=>False) J1 (stat fr1) st1 go) fun r s4 hx__=>?_
   obtain ⟨u,hr,h4⟩:=hx__;subst hr;refine thn h4 fun _ s5 hx__=>?_
   obtain ⟨x,H5,I5,r5,y5,st5,fr5⟩:=hx__;have I5':=I5.pinned (stat fr5) (T.obj _ _ st5);obtain ⟨hg,ht,he⟩:=hb s3 H (s.heap.objs.size::fp);refine thn (hg _ s5 _ H5 x u _ I5' r5 (hgk _ _ _ _ (step x H5 y5))) fun _ s6 hx__=>?_
   obtain ⟨σ6,H6,I6,q6,kk6⟩:=hx__;refine thn (ht _ s6 σ6 H6 _ I6 q6) fun b s7 hx__=>?_
   obtain ⟨H7,I7,q7⟩:=hx__;have fin:∀{σ8:St} {H8:Hp} {s8:Shared},Inv (blk X N' scope s3 H (s.heap.objs.size::fp)) ([(s.heap.objs.size,{ cls:=.type "list",data:=.seq its.toArray k })]++zhb fp s5.heap) σ8 H8 s8->
     tn (i+1) s8.heap/\(∀b∈fp,H8 b=none):=fun {σ8 H8 s8} I8=>by
    refine ⟨T.keep _ _ _ st5 fun b hb o e=>(I8.pin (b,o) (List.mem_append_right _ (List.mem_append_right _ (zeR hb e)))).1,fun b hb=>?_⟩;obtain ⟨o,e,d⟩:=T.obj _ _ st5 b hb;exact (I8.pin (b,o) (List.mem_append_right _ (List.mem_append_right _ (zeR hb e)))).2.1
   have wk:∀{H8:Hp} {s8:Shared} {pl:List (Addr×Obj)},Inv (blk X N' scope s3 H (s.heap.objs.size::fp)) pl σ6 H8 s8->Inv (blk X N' scope s3 H (s.heap.objs.size::fp)) pl (pick σ js) H8 s8:=
    fun I8=>I8.weak (by rw[zjE,I8.len];exact capL.symm) fun i v e=>by
     have e':=e;unfold pick at e';rw[List.getElem?_map] at e'
     cases ej:js[i]? with
     | none=>rw[ej] at e';cases e'
     | some j=>
      cases j with
      | none=>rw[ej] at e';simp at e'
      | some j=>rw[kk6 i j ej];exact e
   have pinl:∀{H8:Hp} {s8:Shared},Inv (blk X N' scope s3 H (s.heap.objs.size::fp)) ([(s.heap.objs.size,{ cls:=.type "list",data:=.seq its.toArray k })]++zhb fp s5.heap) σ6 H8 s8->
     s8.heap.get? s.heap.objs.size=some { cls:=.type "list",data:=.seq its.toArray k }/\H8 s.heap.objs.size=none:=fun I8=>by
    obtain ⟨a1,a2,_⟩:=I8.pin (s.heap.objs.size,{ cls:=.type "list",data:=.seq its.toArray k }) (List.mem_append_right _ (List.mem_append_left _ (List.mem_singleton.mpr rfl)));exact ⟨a1,a2⟩
   have lblk:s.heap.objs.size≠s3.heap.objs.size:=by rw[hh3,sz3];exact Nat.ne_of_lt (Nat.lt_succ_self _)
   have lbfs:s.heap.objs.size∉frs X.stack:=fun z=>by
    rcases List.mem_cons.mp (I.stkSub _ z) with e | z
    .exact lL e
    .exact lfs z
   cases b with
   | false=>
    obtain ⟨m',hm',w'⟩:=q7;obtain ⟨t8,f8⟩:=fin I7;exact ⟨m',hm',i+1,acc,its,k,H7,rv,(wk I7).pins_of (fun p hp=>by
     have e:p=(s.heap.objs.size,{ cls:=.type "list",data:=.seq its.toArray k }):=by simpa using hp
     subst e;exact ⟨(pinl I7).1,(pinl I7).2,lblk,lbfs,fun v z=>by cases z⟩),t8,f8,w'⟩
   | true=>
    rw[if_pos rfl];refine thn (he _ s7 σ6 H7 _ I7 q7) fun y s8 hx__=>?_
    obtain ⟨v,H8,I8,r8,m',hm',w'⟩:=hx__;obtain ⟨t8,f8⟩:=fin I8;obtain ⟨pl1,pl2⟩:=pinl I8;have hlen:=rv.length;refine append_at (hsz:=by show its.toArray.size<=sizeLine;rw[List.size_toArray,<-hlen];exact Nat.le_of_lt hz) pl1 fun h9 hs9 hD9=>?_
    have J0:Inv (blk X N' scope s3 H (s.heap.objs.size::fp)) [] (pick σ js) H8 s8:=(wk I8).pins_of fun p hp=>absurd hp (by simp)
    have J9:Inv (blk X N' scope s3 H (s.heap.objs.size::fp)) [] (pick σ js) H8 { s8 with heap:=h9 }:=
     J0.turned (t':=s8.toks) (it:=s.heap.objs.size) (fun b o hb e=>(hs9.2 b hb).trans e) pl2 lblk (.inl List.mem_cons_self) (fun x c e=>(cown x c e).elim (lc x c) fun q=>Nat.ne_of_gt (Nat.lt_of_lt_of_le (Nat.lt_succ_of_lt (by rw[hh3,sz3];exact Nat.lt_succ_self _)) q)) (fun p hp=>absurd hp (by simp[blk]))
    refine ⟨m',hm',i+1,acc++[v],its++[y],k+1,H8,rv.append (.cons r8 .nil),J9.pins_of (fun p hp=>?_),T.keep _ _ _ t8 (fun b hb o e=>(hs9.2 b (Nat.ne_of_lt (fplt b hb))).trans e),f8,w'⟩;have e:p=(s.heap.objs.size,{ cls:=.type "list",data:=.seq (its++[y]).toArray (k+1) }):=by simpa using hp
    subst e;refine ⟨?_,pl2,lblk,lbfs,fun v z=>by cases z⟩
    show h9.get? _=_
    rw[hD9];simp
 subst hs3;exact codeAny_compStart_list (loop _ rfl) (T.self _ 0 _ _ _ (T.keep _ _ _ st (fun b hb o e=>keep1 b o (by rw[hh3];exact old3 b o e))) (loop _ rfl))
theorem zox {wi:TI} (hc:X.calm=true) (hi:PI X tgt iter wi) (hcap:zh1 X.N X.env.scope N' scope js=true) (hgk:GK js g) (hf:zfn X.env.scope scope=true) (hkind:scope.kind=.function)
  (hb:∀(s':Shared) (H':Hp) (ex:List Addr),PG (blk X N' scope s' H' ex) tgt g/\PF (blk X N' scope s' H' ex) ifs tt/\PE (blk X N' scope s' H' ex) elt te)
  (hs:∀x,foldedSetIterable iter X.env x=pure x:=by intro _;rfl):PE X (.ListComp elt [⟨tgt,iter,ifs,0⟩] scope pos) (tLC wi js g tt te):=by
 intro pins s σ H Q I h;have hnames:∀y∈scope.names,y.2=.local->scope.names.lookup y.1=some .local:=fun y hy e=>by
  have:=List.all_eq_true.mp hf y hy
  simp only[Bool.and_eq_true,Bool.or_eq_true,bne_iff_ne,ne_eq,decide_eq_true_eq] at this;exact this.2.resolve_left fun z=>z e
 have hclos:closureFor scope X.env=pure (zeq X.env.cells scope.names []):=znG fun y hy e=>by
  have:=List.all_eq_true.mp hf y hy
  simp only[Bool.and_eq_true,Bool.or_eq_true,bne_iff_ne,ne_eq,decide_eq_true_eq] at this;exact I.ok.has y.1 (this.1.2.resolve_left fun z=>z e)
 rw[eval_ListComp];refine wpAny_comprehension_free (use:=none) rfl hs hclos hkind hnames (thn (hi pins s σ H _ I h) fun v s1 h1=>thn h1 fun itv s2 h2=>?_);obtain ⟨it,fp,tn,J,H2,e,I2,T,st2,f2,go⟩:=h2;subst e;refine zj8 (Q:=Q) hc hkind hf hcap hgk I2 T st2 f2 go hb ?_;intro l C s' m' H' acc IY hn F q;exact ⟨m',hn,fun h' hs'=>⟨.ref l,_,F.turned IY hs',rfl,q⟩⟩
theorem zjX {wi:TI} {i:Nat} {y:Str} {py spos:Pos} (hN:X.N.Nodup) (hiy:X.N[i]? = some y) (hy:Loc X.env.scope y)
  (hc:X.calm=true) (hi:PI X tgt iter wi) (hcap:zh1 X.N X.env.scope N' scope js=true) (hgk:GK js g) (hf:zfn X.env.scope scope=true) (hkind:scope.kind=.function)
  (hb:∀(s':Shared) (H':Hp) (ex:List Addr),PG (blk X N' scope s' H' ex) tgt g/\PF (blk X N' scope s' H' ex) ifs tt/\PE (blk X N' scope s' H' ex) elt te)
  (hsw:swapsWith (.ListComp elt [⟨tgt,iter,ifs,0⟩] scope pos) (some (.Name y py)) spos.line X.env=pure true:=by rfl)
  (hs:∀x,foldedSetIterable iter X.env x=pure x:=by intro _;rfl) (hfn:X.fn y=true\/X.env.scope.names.lookup y=some .local:=by first | exact .inl rfl | exact .inr rfl | assumption) :
  PS X (.Assign [.Name y py] (.ListComp elt [⟨tgt,iter,ifs,0⟩] scope pos) spos) (tAsg (tLC wi js g tt te) (zkn i)):=by
 intro pins s σ H D I h;have hnames:∀y∈scope.names,y.2=.local->scope.names.lookup y.1=some .local:=fun y hy e=>by
  have:=List.all_eq_true.mp hf y hy
  simp only[Bool.and_eq_true,Bool.or_eq_true,bne_iff_ne,ne_eq,decide_eq_true_eq] at this;exact this.2.resolve_left fun z=>z e
 have hclos:closureFor scope X.env=pure (zeq X.env.cells scope.names []):=znG fun y hy e=>by
  have:=List.all_eq_true.mp hf y hy
  simp only[Bool.and_eq_true,Bool.or_eq_true,bne_iff_ne,ne_eq,decide_eq_true_eq] at this;exact I.ok.has y.1 (this.1.2.resolve_left fun z=>z e)
 rw[exec_Assign_Name_used _ _ _ _ hsw];refine wpAny_bind (wpAny_standAt (wpAny_bind ?_))
 show wpAny _ X.A (do let _ <-comprehension (.ListComp elt [⟨tgt,iter,ifs,0⟩] scope pos) scope X.env _ (newList []) false (eval iter X.env) (some (assign (.Name y py) X.env))) _ _ s
 refine wpAny_bind (wpAny_mono (wpAny_comprehension_free (use:=some (assign (.Name y py) X.env)) (Q:=fun _ s'=>SP X pins D .next s') rfl hs hclos hkind hnames
  (thn (hi pins s σ H _ I h) fun v s1 h1=>thn h1 fun itv s2 h2=>?_)) (fun _ s' hq=>wpAny_pure (wpAny_pure hq)) fun _ _ e=>e)
 obtain ⟨it,fp,tn,J,H2,e,I2,T,st2,f2,go⟩:=h2;subst e;refine zj8 (Q:=fun x H1=>zkn i x σ H1 D.nx) hc hkind hf hcap hgk I2 T st2 f2 go hb ?_;intro l C s' m' H' acc IY hn F q
 show wpAny _ X.A (assign (.Name y py) X.env (.ref l)) _ _ s'
 refine wpAny_assign_Name (zhR IY hN hiy hy (v:=.ref l) rfl (fun s4 I4 ⟨a,hsb,ha⟩=>?_) hfn);have Ca:C≠a:=by
  rcases ha with e | e
  .rw[e];exact F.ne
  .exact fun z=>F.cl y a e z.symm
 exact ⟨m',hn.sameBut hsb Ca,fun h' hs'=>⟨_,_,F.turned I4 hs',q⟩⟩
end
mutual
inductive Dn (H:Hp) (P:Addr->Prop):V->PyData->Prop where
 | non:Dn H P .non .none
 | bl (b:Bool):Dn H P (.bl b) (.bool b)
 | int (i:Int):Dn H P (.int i) (.int i)
 | str (x:Str):Dn H P (.str x) (.str x)
 | lst {a:Addr} {xs:List V} {ds:List PyData}:¬P a->H a=some (.lst xs)->Dns H P xs ds->Dn H P (.ref a) (.list ds)
 | tup {a:Addr} {xs:List V} {ds:List PyData}:¬P a->H a=some (.tup xs)->Dns H P xs ds->Dn H P (.ref a) (.tuple ds)
inductive Dns (H:Hp) (P:Addr->Prop):List V->List PyData->Prop where
 | nil:Dns H P [] []
 | cons {x:V} {d:PyData} {xs:List V} {ds:List PyData}:Dn H P x d->Dns H P xs ds->Dns H P (x::xs) (d::ds)
end
theorem Same.new {H:Hp} {p:Addr} {o:HO} (hn:H p=none):Same H (upd H p o):=fun b u e=>by rw[zaJ (zaH e hn)];exact e
theorem Dn.mapX {P P':Addr->Prop} {H H':Hp} (m:∀a o,H a=some o->¬P a->H' a=some o/\¬P' a) {v:V} {d:PyData} (h:Dn H P v d):Dn H' P' v d:=
 Dn.rec (motive_1:=fun v d _=>Dn H' P' v d) (motive_2:=fun v d _=>Dns H' P' v d) .non .bl .int .str (fun n h _ ih=>.lst (m _ _ h n).2 (m _ _ h n).1 ih) (fun n h _ ih=>.tup (m _ _ h n).2 (m _ _ h n).1 ih) .nil (fun _ _ a b=>.cons a b) h
theorem Dns.mapX {P P':Addr->Prop} {H H':Hp} (m:∀a o,H a=some o->¬P a->H' a=some o/\¬P' a) {v:List V} {d:List PyData} (h:Dns H P v d):Dns H' P' v d:=
 Dns.rec (motive_1:=fun v d _=>Dn H' P' v d) (motive_2:=fun v d _=>Dns H' P' v d) .non .bl .int .str (fun n h _ ih=>.lst (m _ _ h n).2 (m _ _ h n).1 ih) (fun n h _ ih=>.tup (m _ _ h n).2 (m _ _ h n).1 ih) .nil (fun _ _ a b=>.cons a b) h
theorem Dn.weak {P P':Addr->Prop} {H:Hp} (e:∀a,P' a->P a) {v:V} {d:PyData} (h:Dn H P v d):Dn H P' v d:=h.mapX fun a _ x n=>⟨x,fun z=>n (e a z)⟩
theorem Dns.length {P:Addr->Prop} {H:Hp}:∀{xs:List V} {ds:List PyData},Dns H P xs ds->xs.length=ds.length
 | _,_,.nil=>rfl
 | _,_,.cons _ t=>by simp[Dns.length t]
theorem Dns.getV {P:Addr->Prop} {H:Hp}:∀{xs:List V} {ds:List PyData} {i:Nat} {v:V},Dns H P xs ds->xs[i]? = some v->∃d,ds[i]? = some d/\Dn H P v d
 | _,_,_,_,.nil,e=>by simp at e
 | _,_,0,_,.cons a _,e=>by simp at e;subst e;exact ⟨_,rfl,a⟩
 | _,_,i+1,d,.cons _ t,e=>by
  obtain ⟨v,h1,h2⟩:=Dns.getV (i:=i) (v:=d) t (by simpa using e);exact ⟨v,by simpa using h1,h2⟩
theorem Dns.app {P:Addr->Prop} {H:Hp}:∀{xs ys:List V} {ds es:List PyData},Dns H P xs ds->Dns H P ys es->Dns H P (xs++ys) (ds++es)
 | _,_,_,_,.nil,s=>s
 | _,_,_,_,.cons r t,s=>.cons r (Dns.app t s)
theorem Dns.take {P:Addr->Prop} {H:Hp}:∀{xs:List V} {ds:List PyData} (n:Nat),Dns H P xs ds->Dns H P (xs.take n) (ds.take n)
 | _,_,0,_=>.nil
 | _,_,_+1,.nil=>.nil
 | _,_,n+1,.cons r t=>.cons r (Dns.take n t)
theorem Dns.drop {P:Addr->Prop} {H:Hp}:∀{xs:List V} {ds:List PyData} (n:Nat),Dns H P xs ds->Dns H P (xs.drop n) (ds.drop n)
 | _,_,0,r=>r
 | _,_,_+1,.nil=>.nil
 | _,_,n+1,.cons _ t=>Dns.drop n t
theorem Dns.rev {P:Addr->Prop} {H:Hp}:∀{xs:List V} {ds:List PyData},Dns H P xs ds->Dns H P xs.reverse ds.reverse
 | _,_,.nil=>.nil
 | _,_,.cons r t=>by rw[List.reverse_cons,List.reverse_cons];exact Dns.app (Dns.rev t) (.cons r .nil)
theorem Dns.ints {P:Addr->Prop} {H:Hp}:∀{xs:List V} {ns:List Int},Dns H P xs (ns.map PyData.int)->xs=ns.map V.int
 | _,[],h=>by cases h;rfl
 | _,n::ns,h=>by
  cases h with
  | cons a t=>cases a;rw[Dns.ints t];rfl
theorem Dns.ofInts {P:Addr->Prop} {H:Hp}:∀(ns:List Int),Dns H P (ns.map V.int) (ns.map PyData.int)
 | []=>.nil
 | n::ns=>.cons (.int n) (Dns.ofInts ns)
section
variable {X:Cx} {pins:List (Addr×Obj)} {σ:St} {H:Hp} {s:Shared} {P:Addr->Prop}
theorem rd_a (I:Inv X pins σ H s):(∀u,RelV .non u->∃as,Reads s.heap u .none as)/\(∀b u,RelV (.bl b) u->∃as,Reads s.heap u (.bool b) as)/\(∀i u,RelV (.int i) u->∃as,Reads s.heap u (.int i) as)/\(∀x u,RelV (.str x) u->∃as,Reads s.heap u (.str x) as):=
 ⟨fun u r=>by cases r;exact ⟨_,.none⟩,fun b u r=>by cases r;exact ⟨_,.bool b⟩,fun i u r=>by obtain ⟨t,rfl⟩:=r;exact ⟨_,.int i t⟩,fun x u r=>by obtain ⟨t,rfl⟩:=r;exact ⟨_,.str x t⟩⟩
theorem rd_l (I:Inv X pins σ H s) {a:Addr} {xs:List V} {ds:List PyData} (_:¬P a) (h:H a=some (.lst xs)) (_:Dns H P xs ds) (ih:∀u,Vals xs u->∃as,ReadsAll s.heap u ds as) (u:Value) (r:RelV (.ref a) u):∃as,Reads s.heap u (.list ds) as:=by
 cases r;obtain ⟨its,rv,⟨o,n,e,c,_,d⟩,_⟩:=I.list (SqL.of h);obtain ⟨as,q⟩:=ih _ rv;exact ⟨_,reads_list_at e c d (by simpa using q)⟩
theorem rd_t (I:Inv X pins σ H s) {a:Addr} {xs:List V} {ds:List PyData} (_:¬P a) (h:H a=some (.tup xs)) (_:Dns H P xs ds) (ih:∀u,Vals xs u->∃as,ReadsAll s.heap u ds as) (u:Value) (r:RelV (.ref a) u):∃as,Reads s.heap u (.tuple ds) as:=by
 cases r;obtain ⟨its,rv,⟨o,e,c,n,d⟩,_⟩:=I.tuple (SqT.of h);obtain ⟨as,q⟩:=ih _ rv;exact ⟨_,reads_tuple_at e c d (by simpa using q)⟩
theorem rd_c {x:V} {d:PyData} {xs:List V} {ds:List PyData} (_:Dn H P x d) (_:Dns H P xs ds) (i1:∀u,RelV x u->∃as,Reads s.heap u d as) (i2:∀u,Vals xs u->∃as,ReadsAll s.heap u ds as) (u:List Value) (r:Vals (x::xs) u):∃as,ReadsAll s.heap u (d::ds) as:=by
 cases r with
 | cons r1 r2=>
  obtain ⟨as,q⟩:=i1 _ r1;obtain ⟨bs,q'⟩:=i2 _ r2;exact ⟨_,.cons q q'⟩
theorem Dn.reads (I:Inv X pins σ H s) {v:V} {d:PyData} {u:Value} (h:Dn H P v d) (r:RelV v u):∃as,Reads s.heap u d as:=
 Dn.rec (motive_1:=fun v d _=>∀u,RelV v u->∃as,Reads s.heap u d as) (motive_2:=fun v d _=>∀u,Vals v u->∃as,ReadsAll s.heap u d as) (rd_a I).1 (rd_a I).2.1 (rd_a I).2.2.1 (rd_a I).2.2.2 (rd_l I) (rd_t I) (fun u r=>by cases r;exact ⟨_,.nil⟩) (rd_c (s:=s)) h u r
end
section
variable {X:Cx}
open PySem.SeqAt in
@[irreducible] def rEqD (f:Bool->Bool):R2:=fun x y H Q=>(∃i j,x=.int i/\y=.int j/\Q (.bl (f (decide (i=j)))) H)\/
 ∃(P P':Addr->Prop) (d e:PyData),Dn H P x d/\Dn H P' y e/\shaped d=true/\shaped e=true/\Q (.bl (f (PyData.eqv d e))) H
theorem zqo (hu:X.A.units+64 < cLine):OpR X (compareOp .Eq) (rEqD fun b=>b):=by
 intro pins s σ H x y v u Q I rx ry h;unfold rEqD at h;rcases h with ⟨i,j,rfl,rfl,q⟩ | ⟨P,P',d,e,hd,he,sd,se,q⟩
 .obtain ⟨t,rfl⟩:=rx;obtain ⟨t',rfl⟩:=ry;exact eq_int (by rw[Bool.beq_eq_decide_eq];exact ⟨.bl _,H,I,rfl,q⟩)
 .obtain ⟨as,ra⟩:=hd.reads I rx;obtain ⟨bs,rb⟩:=he.reads I ry;exact eq_dataH ra rb sd se hu ⟨.bl _,H,I,rfl,q⟩
theorem zqG (hu:X.A.units+64 < cLine):OpR X (compareOp .NotEq) (rEqD fun b=>!b):=by
 intro pins s σ H x y v u Q I rx ry h;unfold rEqD at h;rcases h with ⟨i,j,rfl,rfl,q⟩ | ⟨P,P',d,e,hd,he,sd,se,q⟩
 .obtain ⟨t,rfl⟩:=rx;obtain ⟨t',rfl⟩:=ry;exact ne_int (by rw[bne,Bool.beq_eq_decide_eq];exact ⟨.bl _,H,I,rfl,q⟩)
 .obtain ⟨as,ra⟩:=hd.reads I rx;obtain ⟨bs,rb⟩:=he.reads I ry;exact ne_dataH ra rb sd se hu ⟨.bl _,H,I,rfl,q⟩
open PySem.SeqAt in
theorem eqD {H:Hp} {f:Bool->Bool} {P P':Addr->Prop} {x y:V} {d e:PyData} {Q:VK} (hd:Dn H P x d) (he:Dn H P' y e) (sd:shaped d=true) (se:shaped e=true) (q:Q (.bl (f (PyData.eqv d e))) H):rEqD f x y H Q:=by
 unfold rEqD;exact .inr ⟨P,P',d,e,hd,he,sd,se,q⟩
end
def cutD {α:Type} (xs:List α) (lo hi:Option Int):List α:=(xs.drop (HT.sIx xs.length 0 lo)).take (HT.sIx xs.length xs.length hi - HT.sIx xs.length 0 lo)
theorem Dns.cut {P:Addr->Prop} {H:Hp} {xs:List V} {ds:List PyData} (h:Dns H P xs ds) (lo hi:Option Int):Dns H P (cutV xs lo hi) (cutD ds lo hi):=by
 unfold cutV cutD;rw[h.length];exact (h.drop _).take _
section
variable {X:Cx}
theorem zlE (hc:X.calm=true):CallR X (.builtin "sum") (fun xs H Q=>∃(x:V) (P:Addr->Prop) (ns:List Int),xs=[x]/\Dn H P x (.list (ns.map PyData.int))/\Q (.int ns.sum) H):=by
 intro pins s σ H xs us Q I r h;obtain ⟨x,P,ns,rfl,hd,q⟩:=h;obtain ⟨u,rfl,rx⟩:=zjk r
 cases hd with
 | lst n h t=>
  cases rx;obtain ⟨its,rv,pl,hz⟩:=I.list (SqL.of h);rw[t.ints] at rv;have hi:IntsAre its ns:=zg6 rv;have hl:=pl.isList;obtain ⟨ys,hy⟩:=hi.allInts.items;rw[hy] at hl;refine sum_intListG (I.ok.hd hc) hl fun h' tk t' hk=>⟨.int ns.sum,H,I.kept hk,⟨t', ?_⟩,q⟩
  have e1:=hi.numsOf;have e2:numsOf its.toArray.toList=ys.toList.map (·.1):=by rw[hy];exact nums_intItems ys
  have e3:ns=ys.toList.map (·.1):=by rw[<-e1];simpa using e2
  rw[preSum_eq,List.take_of_length_le (by simp),<-e3]
theorem zie:CallR X (.builtin "sorted") (fun xs H Q=>∃(x:V) (P:Addr->Prop) (ns:List Int),xs=[x]/\Dn H P x (.list (ns.map PyData.int))/\ns.length < 64/\
  ∀(l:Addr) (ms:List Int),H l=none->ms.Perm ns->ms.Pairwise (·<=·)->Q (.ref l) (upd H l (.lst (ms.map V.int)))):=by
 intro pins s σ H xs us Q I r h;obtain ⟨x,P,ns,rfl,hd,h64,q⟩:=h;obtain ⟨u,rfl,rx⟩:=zjk r
 cases hd with
 | @lst a _ _ n h t=>
  cases rx;obtain ⟨its,rv,pl,hz⟩:=I.list (SqL.of h);rw[t.ints] at rv;have hi:IntsAre its ns:=zg6 rv;have hlen:=rv.length;rw[List.length_map] at hlen;refine sorted_ints pl.isList hi (by omega) fun out ns' a1 a2 a3=>?_
  obtain ⟨e,he⟩:=sortedAll_at s.heap its out;have hf:H (s.heap.objs.size+1)=none:=I.hok.fresh (Nat.le_succ _);refine ⟨.ref _,_,I.laid (t':=s.toks) (o:=.lst (ns'.map V.int)) (fun b o e=>sortedAll_old e) (Nat.le_succ _) ?_,rfl,q _ ns' hf a2 a3⟩;have hl2:ns'.length=ns.length:=a2.length_eq;refine ⟨by rw[List.length_map,hl2];have:=hz;rw[t.ints,List.length_map] at this;exact this,out.toList,e,zgI a1, ?_⟩;rw[he]
  all_goals rfl
theorem zpd:MtR X "int.bit_length" (fun x xs H Q=>∃i,x=.int i/\xs=[]/\Q (.int (Builtin.Int.intBits i)) H):=by
 intro pins s σ H x xs v us Q I rx rs h;obtain ⟨i,rfl,rfl,q⟩:=h;obtain ⟨t,rfl⟩:=rx;cases rs;exact call_int_bit_length ⟨.int _,H,I.tok _,⟨_,rfl⟩,q⟩
structure zj0 (P:Program) (w:World) (K:PySem.W.Frag) (mg:Str->Option Value) (base:Heap) (x:Str) (ps:List Str) (k:Nat) (sp:Sp):Prop where
 ex:∃(f:Addr) (fd:FuncData),mg x=some (.ref f)/\PySem.W.keepIn K (.ref f)=true/\Binds K fd ps []/\FnOk P w K mg base CX0 k f fd ps sp/\∃oc od osl,K.lookup f=some ⟨oc,od,.func fd,osl⟩
def Ite (K:PySem.W.Frag) (l:Addr):It:=
 ⟨fun i H=>∃xs x,SqL K H l xs/\xs[i]? = some x,fun i H v H'=>∃t x,v=.ref t/\H t=none/\H'=upd H t (.tup [.int i,x])/\∀xs,SqL K H l xs->xs[i]? = some x,fun i H=>∃xs,SqL K H l xs/\xs.length<=i⟩
theorem zkO {P:Program} {w:World} {K:PySem.W.Frag} {elts:List Expr} {k:Nat} {tp:Pos} (l e it:Addr) (hne:e≠it):Turn P w K (.Tuple elts k tp) (Ite K l) [e,it] e (fun i h=>(∃old,IsEnum h e it i old)/\h.IsListIter it l i) where
 mem:=by simp
 obj:=fun i h st b hb=>by
  obtain ⟨⟨old,he⟩,⟨o,ho,hc,hd⟩⟩:=st;rcases List.mem_cons.mp hb with z | hb
  .subst z;exact ⟨_,he,fun v z=>by cases z⟩
  .have z:b=it:=by simpa using hb
   subst z;exact ⟨o,ho,fun v z=>by rw[hd] at z;cases z⟩
 keep:=fun i h h' st kk=>by
  obtain ⟨⟨old,he⟩,hit⟩:=st;exact ⟨⟨old,kk e (by simp) _ he⟩,hit.at fun o q=>kk it (by simp) o q⟩
 item:=by
  intro X hP hw hK hc i pins s σ H E I hf st hg;subst hP hw hK;obtain ⟨⟨old,he⟩,hit⟩:=st;obtain ⟨xs,x,hq,hx⟩:=hg;obtain ⟨its,rv,p,hz⟩:=I.list hq;obtain ⟨u,hu,ru⟩:=rv.get hx;refine wpAny_pyNext_enum_item he hit p.isList (x:=u) (by simpa using hu) hne fun h' ho hit' hT hsz hk=>?_
  refine ⟨_,rfl,wpAny_letOwnedTupleGo_enum ho fun h'' he'' hs''=>?_⟩;have hfresh:H s.heap.objs.size=none:=I.hok.fresh (Nat.le_refl _);have helt:e < s.heap.objs.size:=Heap.lt_size he;have kk:∀b o,b≠e->b≠it->s.heap.get? b=some o->h''.get? b=some o:=fun b o n1 n2 q=>(hs''.2 b n1).trans (hk b o n1 n2 q)
  have hT'':h''.get? s.heap.objs.size=some { cls:=.type "tuple",data:=.seq #[.int i s.toks,u] }:=(hs''.2 _ (Nat.ne_of_gt helt)).trans hT;have nfp:∀b u',H b=some u'->b≠e/\b≠it:=fun b u' q=>⟨fun z=>(by rw[z,(hf e (by simp)).1] at q;cases q),fun z=>(by rw[z,(hf it (by simp)).1] at q;cases q)⟩
  obtain ⟨o2,ho2,c2,d2⟩:=id hit';have hit'':h''.IsListIter it l (i+1):=⟨o2,(hs''.2 it hne.symm).trans ho2,c2,d2⟩;have J:Inv X pins σ (upd H s.heap.objs.size (.tup [.int i,x])) { s with heap:=h'',toks:=s.toks+1 }:=by
   refine I.step (h':=h'') (g':=s.gens) (d':=s.drawn) (t':=s.toks+1) (ch:=[e,it]) (fun b hb=>?_) (fun b o _ _ hcn q _=>kk b o (fun z=>hcn (by simp[z])) (fun z=>hcn (by simp[z])) q)
    (fun b o _ _ hcn q _=>⟨o.slots,kk b o (fun z=>hcn (by simp[z])) (fun z=>hcn (by simp[z])) q⟩) (fun b o _ q nn=>by rw[zaJ (Nat.ne_of_lt (Heap.lt_size q))];exact nn)
    (fun b o hcn q=>⟨o,kk b o (fun z=>hcn (by simp[z])) (fun z=>hcn (by simp[z])) q⟩) (fun b ys q=>by rw[zaJ (zaH q hfresh)];exact q) (fun b o u' q=>by rw[zaJ (zaH q hfresh)];exact q)
    (fun b ps q=>⟨#[],by rw[zaJ (zaH q hfresh),q];simp⟩) (fun m hm=>?_) ?_ I.bare
   .obtain ⟨f0,f1,f2,f3,f4,f5⟩:=hf b hb;exact ⟨f3,f1,f4,f5⟩
   .obtain ⟨o,es,ep,hoL,r⟩:=hm;exact ⟨o,es,ep,kk _ o (fun z=>(hf e (by simp)).2.1 z.symm) (fun z=>(hf it (by simp)).2.1 z.symm) hoL,r⟩
   .intro b u' q
    by_cases hb:b=s.heap.objs.size
    .subst hb;rw[zbG] at q;cases q;exact ⟨by show 2<=sizeLine;decide,[.int i s.toks,u],.cons ⟨_,rfl⟩ (.cons ru .nil),⟨_,hT'',rfl,_,rfl⟩⟩
    .rw[zaJ hb] at q;refine (I.hok b u' q).stay (fun c v hcc qq=>kk c v ?_ ?_ qq) (fun c qq=>by rw[zaJ (zaH qq hfresh)];exact qq) fun c ys qq=>by rw[zaJ (zaH qq hfresh)];exact qq
     .rcases hcc with z | z
      .rw[z];exact (nfp b u' q).1
      .exact (nfp c _ z).1
     .rcases hcc with z | z
      .rw[z];exact (nfp b u' q).2
      .exact (nfp c _ z).2
  refine ⟨.ref s.heap.objs.size,_,J,rfl,⟨_,x,rfl,hfresh,rfl,fun ys hy=>by rw[I.list_inj hy hq];exact hx⟩,⟨⟨_,by simpa using he''⟩,hit''⟩,fun b hb=>?_⟩;rw[zaJ]
  .exact (hf b hb).1
  .rcases List.mem_cons.mp hb with z | hb
   .rw[z];exact Nat.ne_of_lt helt
   .have z:b=it:=by simpa using hb
    rw[z];obtain ⟨o3,ho3,_⟩:=hit;exact Nat.ne_of_lt (Heap.lt_size ho3)
 done:=by
  intro X hP hw hK hc i pins s σ H E I hf st hg;subst hP hw hK;obtain ⟨⟨old,he⟩,hit⟩:=st;obtain ⟨xs,hq,hx⟩:=hg;obtain ⟨its,rv,p,hz⟩:=I.list hq;have hl:=rv.length;obtain ⟨f0,f1,f2,f3,f4,f5⟩:=hf it (by simp);exact wpAny_pyNext_enum_end (I.ok.hd hc) he hit p.isList (by simp;omega) fun h' eb=>⟨rfl,I.turned (t':=s.toks) (fun b o hb q=>eb b o hb q) f0 f1 f3 f4 f5⟩
 self:=fun _ _ _ _ _ st h=>by
  obtain ⟨⟨old,he⟩,_⟩:=st;exact wpAny_pyIter_enum he h
theorem Turn.imp {P:Program} {w:World} {K:PySem.W.Frag} {tg:Expr} {J J':It} {fp:List Addr} {it:Addr} {tn:Nat->Heap->Prop} (T:Turn P w K tg J fp it tn)
  (hg:∀i H,J'.go i H->J.go i H) (hy:∀i H x H',J'.go i H->J.yld i H x H'->J'.yld i H x H') (hs:∀i H,J'.stop i H->J.stop i H):Turn P w K tg J' fp it tn where
 mem:=T.mem
 obj:=T.obj
 keep:=T.keep
 item:=fun X a b c d i pins s σ H E I hf st go=>thn (T.item X a b c d i pins s σ H E I hf st (hg i H go)) fun r s1 ⟨u,e,h⟩=>⟨u,e,thn h fun _ s2 ⟨x,H',I',r',y,z⟩=>⟨x,H',I',r',hy i H x H' go y,z⟩⟩
 done:=fun X a b c d i pins s σ H E I hf st stop=>T.done X a b c d i pins s σ H E I hf st (hs i H stop)
 self:=T.self
def ItL (a:Addr):It:=⟨fun i H=>∃xs x,H a=some (.lst xs)/\xs[i]? = some x,fun i H x H'=>H'=H/\∀xs,H a=some (.lst xs)->xs[i]? = some x,fun i H=>∃xs,H a=some (.lst xs)/\xs.length<=i⟩
def ItE (l:Addr):It:=
 ⟨fun i H=>∃xs x,H l=some (.lst xs)/\xs[i]? = some x,fun i H v H'=>∃t x,v=.ref t/\H t=none/\H'=upd H t (.tup [.int i,x])/\∀xs,H l=some (.lst xs)->xs[i]? = some x,fun i H=>∃xs,H l=some (.lst xs)/\xs.length<=i⟩
theorem zrN {P:Program} {w:World} {K:PySem.W.Frag} {tg:Expr} (a it:Addr):Turn P w K tg (ItL a) [it] it (fun i h=>h.IsListIter it a i):=
 (zkE (K:=K) a it).imp (fun i H ⟨xs,x,h,e⟩=>⟨xs,x,SqL.of h,e⟩) (fun i H x H' _ ⟨e,y⟩=>⟨e,fun xs h=>y xs (SqL.of h)⟩) (fun i H ⟨xs,h,e⟩=>⟨xs,SqL.of h,e⟩)
theorem zqr {P:Program} {w:World} {K:PySem.W.Frag} {elts:List Expr} {k:Nat} {tp:Pos} (l e it:Addr) (hne:e≠it):Turn P w K (.Tuple elts k tp) (ItE l) [e,it] e (fun i h=>(∃old,IsEnum h e it i old)/\h.IsListIter it l i):=
 (zkO (K:=K) l e it hne).imp (fun i H ⟨xs,x,h,e⟩=>⟨xs,x,SqL.of h,e⟩) (fun i H x H' _ ⟨t,z,h1,h2,h3,y⟩=>⟨t,z,h1,h2,h3,fun xs h=>y xs (SqL.of h)⟩) (fun i H ⟨xs,h,e⟩=>⟨xs,SqL.of h,e⟩)
def iE (ta:TA):TI:=fun σ H R=>ta σ H fun vs H1=>∃l xs,vs=[.ref l]/\H1 l=some (.lst xs)/\R (ItE l) H1
theorem pi_E {a:Expr} {ta:TA} {p pos:Pos} {elts:List Expr} {k:Nat} {tp:Pos} (hg:Gl X "enumerate") (hm:X.mg "enumerate"=none) (ha:PA X [a] ta) (hs:starEach [a] X.env=[(false,eval a X.env)]:=by rfl) :
  PI X (.Tuple elts k tp) (.Call (.Name "enumerate" p) [a] [] pos) (iE ta):=by
 intro pins s σ H R I h;refine Call_ (zhX I hg hm boot_enumerate (PyProof.Rows.callWith_type1 (thn (ha pos pins s σ H _ I h) fun us s1 ⟨vs,H1,I1,r1,q1⟩=>?_) hs rfl));obtain ⟨l,xs,e,hq,q⟩:=q1;subst e;obtain ⟨u,rfl,ru⟩:=zjk r1;cases ru;obtain ⟨its,rv,pl,hz⟩:=I1.list (SqL.of hq);refine call_enumerate_list pl.isList fun h' he hit hsz hk=>?_
 have I2:Inv X pins σ H1 { s1 with heap:=h' }:=I1.kept (t':=s1.toks) hk;refine wpAny_pyIter_enum (s:={ s1 with heap:=h' }) he ?_;refine ⟨s1.heap.objs.size+1,[s1.heap.objs.size+1,s1.heap.objs.size],_,ItE l,H1,rfl,I2,zqr l _ _ (Nat.ne_of_gt (Nat.lt_succ_self _)),⟨⟨_,by simpa using he⟩,hit⟩,fun b hb=>?_,q⟩;have hge:s1.heap.objs.size<=b:=by
  rcases List.mem_cons.mp hb with z | hb
  .rw[z];exact Nat.le_succ _
  .have z:b=s1.heap.objs.size:=by simpa using hb
   rw[z];exact Nat.le_refl _
 exact I1.fpOk hge (I1.hok.fresh hge)
end
section
variable {X:Cx}
def zkr (i j:Int):Prop:=0 < j/\j < 2 ^ 200
theorem zm6:OpR X (binaryOp .FloorDiv) (rI zkr fun i j=>.int (i / j)):=opI fun i j _ _ _ _ _ hc q=>by
 have h1:(0:Int) < j:=hc.1;have h2:j < 2 ^ 200:=hc.2;refine floordiv_int (by omega) (by rw[Int.fdiv_eq_ediv_of_nonneg i (by omega)];exact q) (.inl (PyProof.noPylong_of_log2 ?_));have h3:j.natAbs < 2 ^ 200:=by omega
 have h4:j.natAbs≠0:=by omega
 exact Nat.lt_trans ((Nat.log2_lt h4).mpr h3) (by decide)
theorem zji {i:Int} {j:Nat} {p pos:Pos}:PE X (.UnaryOp .USub (.Constant (.int i) j p) pos) (tC (.int (-i))):=by
 intro pins s σ H Q I h;exact zqO un_neg znI pins s σ H Q I ⟨i,rfl,h⟩
theorem zgW {x:Str} {n:Int} {pos:Pos} (hg:Gl X x) (h:∃t,X.mg x=some (.int n t)) (hd:(x==("__debug__":Str))=false:=by decide +kernel):PE X (.Name x pos) (tC (.int n)):=by
 obtain ⟨t,h⟩:=h;exact zn8 hg h ⟨t,rfl⟩ hd
end
theorem zl4 {P:Program} {w:World} {K:PySem.W.Frag} {mg:Str->Option Value} {base:Heap} {x:Str} {st:Stmt} {N ps:List Str} {k:Nat} {sp:Sp} (d:∃f fd,Fun K x x st f fd/\mg x=some (.ref f))
  (hb:∀(kV doc pm:Value) (an:Option Addr) (cdv ct:Value) (us:List Value),us.length=ps.length->bindArgs (PySem.W.fnOf x x (zei st) (zcM st) (zam st) .none kV doc pm an cdv ct) ⟨us,[]⟩=pure (ps.zip us))
  (S:zay N ps (zam st)) (len:∀vs H Q E,sp vs H Q E->vs.length=ps.length)
  (hbody:∀(f:Addr) (cdv:Value) (A:Around) (outer:List Env) (s:Shared) (H:Hp) (vs:List V) (Q:VK) (E:XK),Room k (A.deeper (envOfC x (zam st) s.heap.objs.size f cdv))->sp vs H Q E->
   ∃t,PSs (cxOf CX0 P w K mg base N x (zam st) f cdv A outer s H E).nox (zcM st) t/\t { nx:=fun _ H'=>Q .non H',rt:=Q } (start N vs) H):zj0 P w K mg base x ps (k+1) sp:=by
 obtain ⟨f,fd,F,hm⟩:=d;refine ⟨f,fd,hm,F.kp,F.binds hb,F.ok S len fun cdv A outer s H vs Q E hr h=>hbody f cdv A outer s H vs Q E hr h, ?_⟩;obtain ⟨oc,od,_,_,_,_,_,_,osl,_,lk,_⟩:=F.ex;exact ⟨oc,od,osl,lk⟩
theorem zso {P:Program} {w:World} {K:PySem.W.Frag} {mg:Str->Option Value} {x p:Str} {st:Stmt} {k:Nat} {sp:Sp} {fa:Addr} (d:∃f fd,Fun K x x st f fd/\mg x=some (.ref f))
  (hb:∀(kV doc pm:Value) (an:Option Addr) (cdv ct u:Value),bindArgs (PySem.W.fnOf x x (zei st) (zcM st) (zam st) .none kV doc pm an cdv ct) ⟨[u],[]⟩=pure [(p,u)])
  (C:∀base,zj0 P w K mg base x [p] k sp) (hmg:mg x=some (.ref fa)) :
  ∃fd:FuncData,(∀(s:Shared) (u:Value),BindsTo s fd ⟨[u],[]⟩ [(p,u)])/\∀base:Heap,K.In base->base.Ns mainGlobals mg->FnOk P w K mg base CX0 k fa fd [p] sp:=by
 obtain ⟨f,fd,F,hm⟩:=d;rw[hmg] at hm;cases hm;refine ⟨fd,fun s u=>?_,fun base _ _=>?_⟩
 .obtain ⟨oc,od,kV,doc,pm,an,cdv,ct,osl,rfl,lk,hcd⟩:=F.ex;exact .of_eq (hb kV doc pm an cdv ct u)
 .obtain ⟨f',fd',h1,_,_,h4,oc',od',osl',lk'⟩:=(C base).ex;rw[hmg] at h1;cases h1;obtain ⟨oc,od,_,_,_,_,_,_,osl,_,lk,_⟩:=F.ex;rw[lk'] at lk;cases lk;exact h4
section
variable {js:List (Option Nat)} {g:TG} {tt:TT} {te:TE} {σ:St} {H:Hp} {Q:VK}
end
end L2
namespace L2
open PySem PySem.Spec PySem.Calls PySem.W PyProof.Rows
structure XCls (K:Frag) (C:Addr):Prop where
 ga:findIn K (.ref C) "__getattribute__"=some (some (.builtin "BaseException.__getattribute__"))
 gn:findIn K (.ref C) "__getattr__"=some none
 cl:findIn K (.ref C) "__class__"=some (some (.builtin "object.__class__"))
 sb:subIn K (.ref C) (.type "BaseException")=some true
 so:subIn K (.ref C) (.type "object")=some true
 is:(clsIn K C).isSome=true
 ex:excIn K C [.type "ValueError",.type "Exception",.type "BaseException",.type "object"] "ValueError.__new__"=true
section
variable {prog:Program} {w:World} {A:Around} {E:Value->Shared->Prop} {h:Heap} {g:Array GenState} {d:Drawn} {t:Nat} {os:OsState} {a C:Addr} {o:Obj} {K:Frag}
def XAt (a C:Addr) (h:Heap):Prop:=∃o,h.get? a=some o/\o.cls=.ref C
end
structure FlyU (P:Program) (w:World) (base:Heap) (l:List Env) (H H':Hp) (h B h':Heap):Prop where
 st:base.StaysIn B
 al:∀b o,h.get? b=some o->b∉frs l->∃o',B.get? b=some o'
 kp:∀b o,h.get? b=some o->H b=none->b∉frs l->B.get? b=some o
 tr:∀b u,H' b=some u->∃o,B.get? b=some o
 un:Un (frs l) [] H H' h h'
 ok:HOk P w H' h'
def CXF (P:Program) (w:World) (base:Heap):CXT:=fun outer H s E e s'=>
 ∃(ea:Addr) (cls a0:Value) (H':Hp) (B:Heap),e=.ref ea/\s'.os=s.os/\AllBare s'.gens/\FlyU P w base outer H H' s.heap B s'.heap/\Heap.FlyingW B outer ea cls a0 s'.heap/\E cls none H'
theorem zgV {h base:Heap} {l:List Env} (f:h.FunFrames base l) {b:Addr} (hb:b∈frs l):base.get? b=none/\∃o,h.get? b=some o/\∀vs,o.data≠.fields vs:=f.mem hb
theorem FlyU.step {P:Program} {w:World} {base:Heap} {l:List Env} {H H':Hp} {h B h1 h2:Heap} (F:FlyU P w base l H H' h B h1) (s1:B.StaysIn h1) (s2:B.StaysIn h2) (up:h1.UpToSlots h2) (fr:h1.FunFrames B l) :
  FlyU P w base l H H' h B h2:=by
 refine ⟨F.st,F.al,F.kp,F.tr,⟨fun b o e n hb _=>s2 b o (F.kp b o e n hb),fun b o e n hb hx=>?_,F.un.free,fun b o e hx=>?_,F.un.tups,F.un.frzs,F.un.tbls⟩,fun a o e=>?_⟩
 .obtain ⟨sl,e1⟩:=F.un.slot b o e n hb hx;obtain ⟨_,o',e2,nf⟩:=zgV fr hb;rw[e1] at e2;cases e2;obtain ⟨sl',e3⟩:=up b _ e1 nf;exact ⟨sl',e3⟩
 .by_cases hb:b∈frs l
  .obtain ⟨_,o',e2,nf⟩:=zgV fr hb;obtain ⟨sl',e3⟩:=up b _ e2 nf;exact ⟨_,e3⟩
  .obtain ⟨o',e'⟩:=F.al b o e hb;exact ⟨o',s2 b o' e'⟩
 .refine (F.ok a o e).stay (fun b u hb q=>?_) (fun _ q=>q) fun _ _ q=>q
  have ht:∃v,H' b=some v:=by
   rcases hb with rfl | hb
   .exact ⟨o,e⟩
   .exact ⟨_,hb⟩
  obtain ⟨v,hv⟩:=ht;obtain ⟨o',e'⟩:=F.tr b v hv;have z:=s1 b o' e';rw[q] at z;cases z;exact s2 b u e'
section
variable {X:Cx} {pins:List (Addr×Obj)} {σ:St} {H:Hp} {s:Shared}
def XeIs (X:Cx) (E:XK):Prop:=X.xe=fun e s'=>wpAny (model X.prog X.w) X.A (leaving X.env e) (fun _ s''=>CXF X.prog X.w X.base X.outer X.H₀ X.s₀ E e s'') (fun e' s''=>CXF X.prog X.w X.base X.outer X.H₀ X.s₀ E e' s'') s'
theorem zaD {E:XK} (hs:X.stack=X.env::X.outer) (hf:X.env.frame=some X.env.locals) (hx:X.ex=[]) (xe:XeIs X E):zhZ (CXF X.prog X.w X.base) X E:=by
 intro pins σ H s e s' I h;obtain ⟨ea,cls,a0,H',B,rfl,os,ba,F,fl,q⟩:=h;unfold XeIs at xe;rw[xe];rw[hs] at fl F;refine wpAny_leaves_onW (by rw[I.ok.frames,hs]) hf fl fun h' f1 f2=>?_
 refine ⟨ea,cls,a0,H',B,rfl,os.trans I.os,ba, ?_,f1,q⟩;have nx:∀b:Addr,b∉X.ex:=fun b z=>by rw[hx] at z;cases z
 have nofr:∀b o,X.s₀.heap.get? b=some o->b∉frs X.outer->b∉frs (X.env::X.outer):=fun b o e hb hb'=>by
  rw[<-hs] at hb';rcases List.mem_cons.mp (I.stkSub b hb') with z | z
  .exact absurd (z ▸ Heap.lt_size e) (Nat.not_lt.mpr I.ok.above)
  .exact hb z
 have G:=F.step fl.1 f1.1 f2 fl.2.2.1;have base:Un X.fs [] X.H₀ H X.s₀.heap s.heap:=by have q:=I.base;rw[hx] at q;exact q
 have sub:∀b∈X.fs,b∈frs (X.env::X.outer):=fun b hb=>by
  obtain ⟨v,hv,z⟩:=List.mem_filterMap.mp hb;exact List.mem_filterMap.mpr ⟨v,List.mem_cons_of_mem _ hv,z⟩
 have all:Un (frs (X.env::X.outer)) [] X.H₀ H' X.s₀.heap h':=(base.mono sub fun _ z=>z).trans G.un;refine ⟨F.st,fun b o e hb=>?_,fun b o e n hb=>?_,F.tr,⟨fun b o e n hb hx'=>all.keep b o e n (nofr b o e hb) hx',fun b o e n hb hx'=>all.slot b o e n (sub b hb) hx',all.free,all.there,all.tups,all.frzs,all.tbls⟩,G.ok⟩
 .obtain ⟨o',e'⟩:=base.there b o e (by simp);exact F.al b o' e' (nofr b o e hb)
 .exact F.kp b o (base.keep b o e n hb (by simp)) (base.free b o e n (by simp)) (nofr b o e hb)
end
section
variable {X:Cx}
end
section
variable {X:Cx} {pins:List (Addr×Obj)} {σ:St} {H:Hp} {s:Shared}
end
section
variable {X:Cx}
structure zkX (P:Program) (w:World) (K:PySem.W.Frag) (mg:Str->Option Value) (base:Heap) (x:Str) (ps:List Str) (k:Nat) (sp:Sp):Prop where
 ex:∃(f:Addr) (fd:FuncData),mg x=some (.ref f)/\PySem.W.keepIn K (.ref f)=true/\Binds K fd ps []/\FnOk P w K mg base (CXF P w base) k f fd ps sp
end
def ItZ (l1 l2:Addr):It:=
  ⟨fun i H=>∃xs x ys y,H l1=some (.lst xs)/\xs[i]? = some x/\H l2=some (.lst ys)/\ys[i]? = some y,
   fun i H v H'=>∃t x y,v=.ref t/\H t=none/\H'=upd H t (.tup [x,y])/\(∀xs,H l1=some (.lst xs)->xs[i]? = some x)/\∀ys,H l2=some (.lst ys)->ys[i]? = some y,
   fun i H=>∃xs ys,H l1=some (.lst xs)/\H l2=some (.lst ys)/\(xs.length<=i\/ys.length<=i)⟩
structure ZA (z TI TO i1 i2:Addr):Prop where
 TIz:TI≠z
 TOz:TO≠z
 i1z:i1≠z
 i2z:i2≠z
 TITO:TI≠TO
 TIi1:TI≠i1
 TIi2:TI≠i2
 TOi1:TO≠i1
 TOi2:TO≠i2
 i12:i1≠i2
theorem ZA.apart {z TI TO i1 i2 l1 l2:Addr} (D:ZA z TI TO i1 i2) {H:Hp} {o1 o2:HO} (h1:H l1=some o1) (h2:H l2=some o2) (hf:∀b∈[z,TI,TO,i1,i2],H b=none):ZipApart z TI TO i1 i2 l1 l2:=
 ⟨D.TIz,D.TOz,D.i1z,D.i2z,D.TITO,D.TIi1,D.TIi2,D.TOi1,D.TOi2,D.i12,zaH h1 (hf _ (by simp)),zaH h1 (hf _ (by simp)),zaH h1 (hf _ (by simp)),zaH h1 (hf _ (by simp)),
  zaH h2 (hf _ (by simp)),zaH h2 (hf _ (by simp)),zaH h2 (hf _ (by simp)),zaH h2 (hf _ (by simp))⟩
theorem zq8 {P:Program} {w:World} {K:PySem.W.Frag} {elts:List Expr} {k:Nat} {tp:Pos} (l1 l2 z TI TO i1 i2:Addr) (D:ZA z TI TO i1 i2) :
  Turn P w K (.Tuple elts k tp) (ItZ l1 l2) [z,TI,TO,i1,i2] z (fun i h=>IsZip h z TI TO .none/\IsPair h TI (.ref i1) (.ref i2)/\(∃a b,IsPair h TO a b)/\h.IsListIter i1 l1 i/\h.IsListIter i2 l2 i) where
 mem:=by simp
 obj:=fun i h st b hb=>by
  obtain ⟨hz,hTI,⟨a,c,hTO⟩,⟨o1,ho1,hc1,hd1⟩,⟨o2,ho2,hc2,hd2⟩⟩:=st;simp only[List.mem_cons,List.not_mem_nil,or_false] at hb;rcases hb with rfl | rfl | rfl | rfl | rfl
  .exact ⟨_,hz,fun v z=>by cases z⟩
  .exact ⟨_,hTI,fun v z=>by cases z⟩
  .exact ⟨_,hTO,fun v z=>by cases z⟩
  .exact ⟨_,ho1,fun v z=>by rw[hd1] at z;cases z⟩
  .exact ⟨_,ho2,fun v z=>by rw[hd2] at z;cases z⟩
 keep:=fun i h h' st kk=>by
  obtain ⟨hz,hTI,⟨a,c,hTO⟩,h1,h2⟩:=st;exact ⟨kk z (by simp) _ hz,kk TI (by simp) _ hTI,⟨a,c,kk TO (by simp) _ hTO⟩,h1.at fun o q=>kk i1 (by simp) o q,h2.at fun o q=>kk i2 (by simp) o q⟩
 item:=by
  intro X hP hw hK hc i pins s σ H E I hf st hg;subst hP hw hK;obtain ⟨hz,hTI,⟨a,c,hTO⟩,h1,h2⟩:=st;obtain ⟨xs,x,ys,y,hq1,hx,hq2,hy⟩:=hg;obtain ⟨its1,rv1,p1,hz1⟩:=I.list (SqL.of hq1);obtain ⟨its2,rv2,p2,hz2⟩:=I.list (SqL.of hq2);obtain ⟨u1,hu1,ru1⟩:=rv1.get hx;obtain ⟨u2,hu2,ru2⟩:=rv2.get hy;have DA:=D.apart hq1 hq2 (fun b hb=>(hf b hb).1);refine wpAny_pyNext_zip_item DA hz hTI hTO h1 h2 p1.isList p2.isList (x:=u1) (y:=u2) (by simpa using hu1) (by simpa using hu2) fun h' a1 a2 a3 a4 a5 a6 hk=>?_
  refine ⟨_,rfl,wpAny_letOwnedTupleGo_zip a1 fun h'' hz'' hs''=>?_⟩;have hfresh:H s.heap.objs.size=none:=I.hok.fresh (Nat.le_refl _);have zlt:z < s.heap.objs.size:=Heap.lt_size hz;have kk:∀b o,b≠z->b≠TO->b≠i1->b≠i2->s.heap.get? b=some o->h''.get? b=some o:=fun b o n1 n2 n3 n4 q=>(hs''.2 b n1).trans (hk b o n1 n2 n3 n4 q)
  have hT'':h''.get? s.heap.objs.size=some { cls:=.type "tuple",data:=.seq #[u1,u2] }:=(hs''.2 _ (Nat.ne_of_gt zlt)).trans a5;have nf:∀b u',H b=some u'->∀c∈[z,TI,TO,i1,i2],b≠c:=fun b u' q c hc e=>by rw[e,(hf c hc).1] at q;cases q
  have nc:∀b,b∉[z,TI,TO,i1,i2]->b≠z/\b≠TO/\b≠i1/\b≠i2:=fun b hb=>⟨fun e=>hb (by simp[e]),fun e=>hb (by simp[e]),fun e=>hb (by simp[e]),fun e=>hb (by simp[e])⟩
  have J:Inv X pins σ (upd H s.heap.objs.size (.tup [x,y])) { s with heap:=h'',toks:=s.toks }:=by
   refine I.step (h':=h'') (g':=s.gens) (d':=s.drawn) (t':=s.toks) (ch:=[z,TI,TO,i1,i2]) (fun b hb=>?_) (fun b o _ _ hcn q _=>kk b o (nc b hcn).1 (nc b hcn).2.1 (nc b hcn).2.2.1 (nc b hcn).2.2.2 q)
    (fun b o _ _ hcn q _=>⟨o.slots,kk b o (nc b hcn).1 (nc b hcn).2.1 (nc b hcn).2.2.1 (nc b hcn).2.2.2 q⟩) (fun b o _ q nn=>by rw[zaJ (Nat.ne_of_lt (Heap.lt_size q))];exact nn)
    (fun b o hcn q=>⟨o,kk b o (nc b hcn).1 (nc b hcn).2.1 (nc b hcn).2.2.1 (nc b hcn).2.2.2 q⟩) (fun b ys q=>by rw[zaJ (zaH q hfresh)];exact q) (fun b o u' q=>by rw[zaJ (zaH q hfresh)];exact q)
    (fun b ps q=>⟨#[],by rw[zaJ (zaH q hfresh),q];simp⟩) (fun m hm=>?_) ?_ I.bare
   .obtain ⟨f0,f1,f2,f3,f4,f5⟩:=hf b hb;exact ⟨f3,f1,f4,f5⟩
   .obtain ⟨o,es,ep,hoL,r⟩:=hm;exact ⟨o,es,ep,kk _ o (fun e=>(hf z (by simp)).2.1 e.symm) (fun e=>(hf TO (by simp)).2.1 e.symm) (fun e=>(hf i1 (by simp)).2.1 e.symm) (fun e=>(hf i2 (by simp)).2.1 e.symm) hoL,r⟩
   .intro b u' q
    by_cases hb:b=s.heap.objs.size
    .subst hb;rw[zbG] at q;cases q;exact ⟨by show 2<=sizeLine;decide,[u1,u2],.cons ru1 (.cons ru2 .nil),⟨_,hT'',rfl,_,rfl⟩⟩
    .rw[zaJ hb] at q;refine (I.hok b u' q).stay (fun c v hcc qq=>?_) (fun c qq=>by rw[zaJ (zaH qq hfresh)];exact qq) fun c ys qq=>by rw[zaJ (zaH qq hfresh)];exact qq
     have nn:∀e∈[z,TI,TO,i1,i2],c≠e:=by
      rcases hcc with e | e
      .rw[e];exact nf b u' q
      .exact nf c _ e
     exact kk c v (nn _ (by simp)) (nn _ (by simp)) (nn _ (by simp)) (nn _ (by simp)) qq
  have up:∀b o,b≠z->h'.get? b=some o->h''.get? b=some o:=fun b o n q=>(hs''.2 b n).trans q
  refine ⟨.ref s.heap.objs.size,_,J,rfl,⟨_,x,y,rfl,hfresh,rfl,fun zs hy'=>by rw[hq1] at hy';cases hy';exact hx,fun zs hy'=>by rw[hq2] at hy';cases hy';exact hy⟩,
   ⟨hz'',up _ _ D.TIz (hk _ _ D.TIz D.TITO D.TIi1 D.TIi2 hTI),⟨_,_,up _ _ D.TOz a2⟩,a3.at fun o q=>up _ o D.i1z q,a4.at fun o q=>up _ o D.i2z q⟩,fun b hb=>?_⟩
  rw[zaJ]
  .exact (hf b hb).1
  .obtain ⟨o1,ho1,_⟩:=h1;obtain ⟨o2,ho2,_⟩:=h2;simp only[List.mem_cons,List.not_mem_nil,or_false] at hb;rcases hb with rfl | rfl | rfl | rfl | rfl
   .exact Nat.ne_of_lt zlt
   .exact Nat.ne_of_lt (Heap.lt_size hTI)
   .exact Nat.ne_of_lt (Heap.lt_size hTO)
   .exact Nat.ne_of_lt (Heap.lt_size ho1)
   .exact Nat.ne_of_lt (Heap.lt_size ho2)
 done:=by
  intro X hP hw hK hc i pins s σ H E I hf st hg;subst hP hw hK;obtain ⟨hz,hTI,⟨a,c,hTO⟩,h1,h2⟩:=st;obtain ⟨xs,ys,hq1,hq2,hx⟩:=hg;obtain ⟨its1,rv1,p1,hz1⟩:=I.list (SqL.of hq1);obtain ⟨its2,rv2,p2,hz2⟩:=I.list (SqL.of hq2);have hl1:=rv1.length;have hl2:=rv2.length;have DA:=D.apart hq1 hq2 (fun b hb=>(hf b hb).1);refine wpAny_pyNext_zip_end (I.ok.hd hc) DA hz hTI hTO h1 h2 p1.isList p2.isList (by simp;omega) fun h' kk=>⟨rfl, ?_⟩
  have nf:∀b u',H b=some u'->∀c∈[z,TI,TO,i1,i2],b≠c:=fun b u' q c hc e=>by rw[e,(hf c hc).1] at q;cases q
  have nc:∀b,b∉[z,TI,TO,i1,i2]->b≠z/\b≠TO/\b≠i1/\b≠i2:=fun b hb=>⟨fun e=>hb (by simp[e]),fun e=>hb (by simp[e]),fun e=>hb (by simp[e]),fun e=>hb (by simp[e])⟩
  refine I.step (h':=h') (g':=s.gens) (d':=s.drawn) (t':=s.toks) (ch:=[z,TI,TO,i1,i2]) (fun b hb=>?_) (fun b o _ _ hcn q _=>kk b o (nc b hcn).1 (nc b hcn).2.1 (nc b hcn).2.2.1 (nc b hcn).2.2.2 q)
   (fun b o _ _ hcn q _=>⟨o.slots,kk b o (nc b hcn).1 (nc b hcn).2.1 (nc b hcn).2.2.1 (nc b hcn).2.2.2 q⟩) (fun b o _ q nn=>nn)
   (fun b o hcn q=>⟨o,kk b o (nc b hcn).1 (nc b hcn).2.1 (nc b hcn).2.2.1 (nc b hcn).2.2.2 q⟩) (fun b ys q=>q) (fun b o u' q=>q)
   (fun b ps q=>⟨#[],by rw[q];simp⟩) (fun m hm=>?_) (fun b u' q=>?_) I.bare
  .obtain ⟨f0,f1,f2,f3,f4,f5⟩:=hf b hb;exact ⟨f3,f1,f4,f5⟩
  .obtain ⟨o,es,ep,hoL,r⟩:=hm;exact ⟨o,es,ep,kk _ o (fun e=>(hf z (by simp)).2.1 e.symm) (fun e=>(hf TO (by simp)).2.1 e.symm) (fun e=>(hf i1 (by simp)).2.1 e.symm) (fun e=>(hf i2 (by simp)).2.1 e.symm) hoL,r⟩
  .refine (I.hok b u' q).stay (fun c v hcc qq=>?_) (fun c qq=>qq) fun c ys qq=>qq
   have nn:∀e∈[z,TI,TO,i1,i2],c≠e:=by
    rcases hcc with e | e
    .rw[e];exact nf b u' q
    .exact nf c _ e
   exact kk c v (nn _ (by simp)) (nn _ (by simp)) (nn _ (by simp)) (nn _ (by simp)) qq
 self:=fun _ _ _ _ _ st h=>wpAny_pyIter_zip st.1 h
section
variable {X:Cx}
def iZ (ta:TA):TI:=fun σ H R=>ta σ H fun vs H1=>∃l1 l2 xs ys,vs=[.ref l1,.ref l2]/\H1 l1=some (.lst xs)/\H1 l2=some (.lst ys)/\R (ItZ l1 l2) H1
theorem zrd {a b:Expr} {ta:TA} {p pos:Pos} {elts:List Expr} {k:Nat} {tp:Pos} (hg:Gl X "zip") (hm:X.mg "zip"=none) (ha:PA X [a,b] ta) (hs:starEach [a,b] X.env=(false,eval a X.env)::starEach [b] X.env:=by rfl) (hpl:(backTo pos (starEach [b] X.env)).any (·.1)=false:=by rfl) :
  PI X (.Tuple elts k tp) (.Call (.Name "zip" p) [a,b] [] pos) (iZ ta):=by
 intro pins s σ H R I h;refine Call_ (zhX I hg hm boot_zip (PyProof.Rows.callWith_type1 (thn (ha pos pins s σ H _ I h) fun us s1 ⟨vs,H1,I1,r1,q1⟩=>?_) hs hpl));obtain ⟨l1,l2,xs,ys,e,hq1,hq2,q⟩:=q1;subst e;obtain ⟨u,u',rfl,ru,ru'⟩:=zqw r1;cases ru
 cases ru'
 obtain ⟨its1,rv1,p1,hz1⟩:=I1.list (SqL.of hq1);obtain ⟨its2,rv2,p2,hz2⟩:=I1.list (SqL.of hq2);refine call_zip_2 p1.isList p2.isList fun h' z1 z2 z3 z4 z5 hsz hk=>?_
 have I2:Inv X pins σ H1 { s1 with heap:=h' }:=I1.kept (t':=s1.toks) hk;refine wpAny_pyIter_zip (s:={ s1 with heap:=h' }) z1 ?_;have D:ZA (s1.heap.objs.size+4) (s1.heap.objs.size+2) (s1.heap.objs.size+3) s1.heap.objs.size (s1.heap.objs.size+1):=by constructor<;>(intro e;have e':(_:Nat)=_:=e;omega)
 refine ⟨s1.heap.objs.size+4,[s1.heap.objs.size+4,s1.heap.objs.size+2,s1.heap.objs.size+3,s1.heap.objs.size,s1.heap.objs.size+1],_,ItZ l1 l2,H1,rfl,I2,zq8 l1 l2 _ _ _ _ _ D,⟨z1,z2,⟨_,_,z3⟩,z4,z5⟩,fun b hb=>?_,q⟩;have hge:s1.heap.objs.size<=b:=by
  simp only[List.mem_cons,List.not_mem_nil,or_false] at hb;rcases hb with rfl | rfl | rfl | rfl | rfl
  .exact Nat.le_add_right _ _
  .exact Nat.le_add_right _ _
  .exact Nat.le_add_right _ _
  .exact Nat.le_refl _
  .exact Nat.le_add_right _ _
 exact I1.fpOk hge (I1.hok.fresh hge)
end
section
variable {js:List (Option Nat)} {g:TG} {tt:TT} {te:TE} {σ:St} {H:Hp} {Q:VK}
end
section
variable {X:Cx} {pins:List (Addr×Obj)} {σ:St} {H:Hp} {s:Shared}
end
theorem zkB {P:Program} {w:World} {K:PySem.W.Frag} {mg:Str->Option Value} {base:Heap} {x:Str} {st:Stmt} {N ps:List Str} {k:Nat} {sp:Sp} (d:∃f fd,Fun K x x st f fd/\mg x=some (.ref f))
  (hb:∀(kV doc pm:Value) (an:Option Addr) (cdv ct:Value) (us:List Value),us.length=ps.length->bindArgs (PySem.W.fnOf x x (zei st) (zcM st) (zam st) .none kV doc pm an cdv ct) ⟨us,[]⟩=pure (ps.zip us))
  (S:zay N ps (zam st)) (len:∀vs H Q E,sp vs H Q E->vs.length=ps.length)
  (hbody:∀(f:Addr) (cdv:Value) (A:Around) (outer:List Env) (s:Shared) (H:Hp) (vs:List V) (Q:VK) (E:XK),Room k (A.deeper (envOfC x (zam st) s.heap.objs.size f cdv))->sp vs H Q E->
   ∃t,PSs (cxOf (CXF P w base) P w K mg base N x (zam st) f cdv A outer s H E) (zcM st) t/\t { nx:=fun _ H'=>Q .non H',rt:=Q } (start N vs) H):zkX P w K mg base x ps (k+1) sp:=by
 obtain ⟨f,fd,F,hm⟩:=d;refine ⟨f,fd,hm,F.kp,F.binds hb, ?_⟩;obtain ⟨oc,od,kV,doc,pm,an,cdv,ct,osl,rfl,lk,hcd⟩:=F.ex;exact zqb lk hcd S len fun A outer s H vs Q E hr hsp=>hbody f cdv A outer s H vs Q E hr hsp
def xOk (K:Frag) (top x:Str) (others:List Str):Bool:=match nsIn K mainGlobals x with
 | some (some (.ref C))=>
  (findIn K (.ref C) "__getattribute__"==some (some (.builtin "BaseException.__getattribute__")))&&(findIn K (.ref C) "__getattr__"==some none)&&(findIn K (.ref C) "__class__"==some (some (.builtin "object.__class__"))) &&
  (subIn K (.ref C) (.type "BaseException")==some true)&&(subIn K (.ref C) (.type "object")==some true)&&(clsIn K C).isSome&&excIn K C [.type "ValueError",.type "Exception",.type "BaseException",.type "object"] "ValueError.__new__" &&
  (match nsIn K mainGlobals top with | some (some (.ref R))=>exmOne K (.ref C) (.ref R)==some true | _=>false)&&(kitOne K (.ref C) (.type "ValueError")==some true) &&
  others.all (fun y=>match nsIn K mainGlobals y with | some (some (.ref D))=>kitOne K (.ref C) (.ref D)==some (y==x) | _=>false)
 | _=>false
end L2
namespace L2
open PySem PySem.W
end L2
namespace L2
open PySem
section
variable {X:Cx} {st:Stmt} {l:List Stmt} {t u:TS}
end
end L2
namespace L2
open PySem PySem.W PySem.Calls PyProof.Rows
def hdS (w:World) (os:OsState):Shared:=⟨boot_heap w.params,Array.mk [],boot_drawn,boot_toks,os⟩
def hdF {α β:Type} (run:(String->Option PySem.Builtin)->Program->World->Nat->Option Value->Nat->Shared->Thread->Option Shared) (tt:String->Option PySem.Builtin) (im:List Stmt->List Str)
  (sn:Program->List Str->List Str->(Shared->Bool)->Bool->Shared->α) (p q:Program) (loose:List Str) (Xt:Shared->Bool) (Yf:Shared->β) (N:Nat) (w:World) (os:OsState):Option (Bool×α×β):=
 (run tt p w 11 ((boot_heap w.params).nsMap mainGlobals "__annotations__") N (hdS w os) (topStub p)).map fun s=>((staticsOk (im p.main.body) (hdS w os).heap s.heap&&namesBound p s.heap&&gensDone s&&laidKept (hdS w os).heap s.heap),sn q loose (im p.main.body) Xt true s,Yf s)
theorem zow (P:Params):(((boot_heap P).isNs mainGlobals&&(Array.mk []:Array GenState).size==0,(boot_heap P).objs.size):Bool×Nat)=(true,11):=by kernel_rfl
theorem znf {β:Type} {p q:Program} {loose:List Str} {Xt:Shared->Bool} {Yf:Shared->β} {Ya:World->β} {N:Nat} (hN:Nat.ble 600 N=true)
  (e:opening p=plainProg p.main.scope.names) (f:∀s,fenceModules? p s=some s)
  (h:∀w os,hdF topRun treeTable importedModules openSeen p q loose Xt Yf N w os=some (true,openGood q loose,Ya w)):LeftO p q loose Xt Yf Ya N:=fun w=>by
 obtain ⟨⟨h0,gs,d,k,os⟩,e1,e'⟩:=Option.map_eq_some_iff.mp (boot_open e hN f w);obtain ⟨rfl,rfl,rfl,rfl⟩:h0=boot_heap w.params/\gs=Array.mk []/\d=boot_drawn/\k=boot_toks:=by simpa using e'
 obtain ⟨s,r,x⟩:=Option.map_eq_some_iff.mp (h w os);obtain ⟨x1,x2⟩:=Prod.mk.inj x;have z:=zow w.params;obtain ⟨z1,z2⟩:=Prod.mk.inj z;have t:topFrom treeTable p w N (hdS w os)=some s:=by
  unfold topFrom;have z1':((hdS w os).heap.isNs mainGlobals&&(hdS w os).gens.size==0)=true:=z1;have z2':(hdS w os).heap.objs.size=11:=z2;have z3':(hdS w os).heap.nsMap mainGlobals "__annotations__"=(boot_heap w.params).nsMap mainGlobals "__annotations__":=rfl;rw[z1',z2',z3',r]
  show (match staticsOk (importedModules p.main.body) (hdS w os).heap s.heap&&namesBound p s.heap&&gensDone s&&laidKept (hdS w os).heap s.heap with | true=>_ | false=>_)=_
  rw[x1]
 unfold openEnds;rw[e1]
 show (topFrom treeTable p w N (hdS w os)).map _=_
 rw[t];exact congrArg some x2
def zfq:Nat->List Obj->Frag
 | _,[]=>[]
 | n,o::r=>match o with
  | ⟨_,_,.freed,_⟩=>zfq (n+1) r
  | o=>(n,o)::zfq (n+1) r
def zk8 (h:Heap):Frag:=zfq 0 h.objs.toList
theorem ze1:∀(l:List Obj) (n a:Nat) (o:Obj),(zfq n l).lookup a=some o->n<=a/\l[a - n]? = some o/\∀c d s,o≠⟨c,d,.freed,s⟩
 | [],_,_,_,h=>nomatch h
 | x::r,n,a,o,h=>by
  unfold zfq at h;split at h
  .obtain ⟨h1,h2,h3⟩:=ze1 r (n+1) a o h;refine ⟨by omega, ?_,h3⟩;rw[show a - n=(a - (n+1))+1 by omega];exact h2
  .rename_i hne;rw[List.lookup_cons] at h;split at h
   .rename_i q;obtain rfl:a=n:=by simpa using q
    cases h;exact ⟨Nat.le_refl _,by simp,fun c d s e=>hne c d s e⟩
   .obtain ⟨h1,h2,h3⟩:=ze1 r (n+1) a o h;refine ⟨by omega, ?_,h3⟩;rw[show a - n=(a - (n+1))+1 by omega];exact h2
theorem zla (h:Heap):(zk8 h).In h:=fun a o e=>by
 obtain ⟨_,h2,h3⟩:=ze1 _ _ _ _ e;have h4:h.objs[a]? = some o:=by simpa using h2
 unfold Heap.get?;rw[h4];obtain ⟨c,d,x,s⟩:=o
 cases x<;>first | rfl | exact absurd rfl (h3 _ _ _)
def zlY (v:Value) (n:Str):Bool:=match v with | .str s _=>Fast.sEq s n | _=>false
theorem zin (v:Value) (n:Str):v.isStr n=zlY v n:=by
 cases v with
 | str s t=>
  show (s==n)=Fast.sEq s n
  cases h:Fast.sEq s n with
  | true=>exact beq_iff_eq.mpr (Fast.sEq_iff.mp h)
  | false=>exact beq_eq_false_iff_ne.mpr fun e=>by rw[Fast.sEq_iff.mpr e] at h;cases h
 | _=>rfl
def nsF (K:Frag) (ns:Addr) (name:Str):Option (Option Value):=match K.lookup ns with
 | some ⟨_,_,.dict es _,_⟩=>(match es.toList.find? (fun e=>zlY e.key name) with
   | some e=>some (some e.val)
   | none=>if es.toList.any (·.refKey) then none else some none)
 | _=>none
theorem zlT (K:Frag) (ns:Addr) (name:Str):nsIn K ns name=nsF K ns name:=by
 unfold nsIn nsF;rw[show (fun e:DictEntry=>zlY e.key name)=fun e=>e.key.isStr name from funext fun e=>(zin _ _).symm];rfl
def zfV (s:Stmt):Str:=match s with
 | .FunctionDef n _ _ _ _ _ _ _ _ _=>n
 | _=>⟨#[]⟩
def zp7 (s:Stmt):Pos:=match s with
 | .FunctionDef _ _ _ _ _ _ _ _ _ p=>p
 | _=>⟨0,0,0,0⟩
def znB (fd:FuncData):FuncData:={ fd with kwdefaults:=.none,doc:=.none,pyModule:=.none,annotations:=none,code:=.none,closureTuple:=.none }
def zpU (eq:Str->Str->Bool) (K:Frag) (cd:Value) (q:Str):Bool:=match cd with
 | .ref c=>(match K.lookup c with
   | some ⟨_,_,.fields vs,_⟩=>(match vs.toList with | _::.str n _::_=>eq n q | _=>false)
   | _=>false)
 | _=>false
theorem zpf:Fast.sEq=fun a b=>a==b:=funext fun a=>funext fun b=>(zin (.str a 0) b).symm
theorem zmX (K:Frag) (cd:Value) (q:Str):zpU Fast.sEq K cd q=codeIn K cd q:=by rw[zpf];rfl
def zob (K:Frag) (n:Str):Option FuncData:=match nsF K mainGlobals n with
 | some (some (.ref f))=>(match K.lookup f with
  | some ⟨_,_,.func fd,_⟩=>(match zpU Fast.sEq K fd.code n with | true=>some (znB fd) | false=>none)
  | _=>none)
 | _=>none
def zoZ (st:Stmt):FuncData:=fnOf (zfV st) (zfV st) (zei st) (zcM st) (zam st) .none .none .none .none none .none .none
theorem zaX {K:Frag} {h:Heap} {mg:Str->Option Value} {n:Str} {st:Stmt} (X:K.In h) (G:h.Ns mainGlobals mg) (hn:zfV st=n) (e:zob K (zfV st)=some (zoZ st)):∃f fd,Fun K n n st f fd/\mg n=some (.ref f):=by
 subst hn;unfold zob at e;split at e
 .rename_i f hf;split at e
  .rename_i oc od fd osl ho;split at e
   .rename_i hc;have hc':codeIn K fd.code (zfV st)=true:=(zmX _ _ _).symm.trans hc;refine ⟨f,fd,⟨?_, ?_⟩,mg_of X G ((zlT _ _ _).trans hf)⟩
    .have e':=Option.some.inj e;obtain ⟨nm,qn,pa,bo,sc,gl,cl,de,kd,dc,pm,an,cd,ct,bi⟩:=fd;unfold znB zoZ fnOf at e';simp only[FuncData.mk.injEq] at e';obtain ⟨rfl,rfl,rfl,rfl,rfl,rfl,rfl,rfl,-,-,-,-,-,-,rfl⟩:=e';exact ⟨oc,od,kd,dc,pm,an,cd,ct,osl,rfl,ho,hc'⟩
    .simp only[keepIn,ho]
   .cases e
  .cases e
 .cases e
def zoP (K:Frag) (n:Str):Bool:=match nsF K mainGlobals n with | some none=>true | _=>false
def zlQ (K:Frag) (n:Str):Option Int:=match nsF K mainGlobals n with | some (some (.int i _))=>some i | _=>none
theorem zfp {K:Frag} {h:Heap} {mg:Str->Option Value} {n:Str} (X:K.In h) (G:h.Ns mainGlobals mg) (e:zoP K n=true):mg n=none:=by
 unfold zoP at e;split at e
 .rename_i q;exact mg_none_of X G ((zlT _ _ _).trans q)
 .cases e
theorem zgx {K:Frag} {h:Heap} {mg:Str->Option Value} {n:Str} {i:Int} (X:K.In h) (G:h.Ns mainGlobals mg) (e:zlQ K n=some i):∃t,mg n=some (.int i t):=by
 unfold zlQ at e;split at e
 .rename_i j t q;cases e;exact ⟨t,mg_of X G ((zlT _ _ _).trans q)⟩
 .cases e
abbrev ObsT:=List (Option FuncData)×List Bool×List (Option Int)×List Bool
def obs (fs:List Stmt) (bs:List Str) (cs:List Str) (xs:List (Str×Str×List Str)) (K:Frag):ObsT:=
 (fs.map fun s=>zob K (zfV s),bs.map (zoP K),cs.map (zlQ K),xs.map fun x=>xOk K x.1 x.2.1 x.2.2)
def due (fs:List Stmt) (bs:List Str) (is:List Int) (xs:List (Str×Str×List Str)):ObsT:=(fs.map fun s=>some (zoZ s),bs.map fun _=>true,is.map some,xs.map fun _=>true)
theorem zaM {A B:Type} {f g:A->B} {l:List A} (e:l.map f=l.map g) (i:Nat) {a:A} (h:l[i]? = some a):f a=g a:=by
 have:=congrArg (fun z=>z[i]?) e
 simpa [h] using this
theorem zgQ {f:Str->Option Int} {l:List Str} {is:List Int} (e:l.map f=is.map some) (i:Nat) {a:Str} {x:Int} (h:l[i]? = some a) (h2:is[i]? = some x):f a=some x:=by
 have:=congrArg (fun z=>z[i]?) e
 simpa [h,h2] using this
def zgG (O:Frag->ObsT) (D:ObsT):Hook:=
 ⟨ObsT,fun s=>O (zk8 s.heap),fun _=>D,fun _ h=>∃K:Frag,K.In h/\O K=D,fun _ s e=>⟨_,zla s.heap,e⟩,fun _ _ _ x k=>let ⟨K,a,b⟩:=x;⟨K,a.keeps k,b⟩⟩
theorem zmR {l:PySem.W.OpenLaw} {n k:Nat} {q:Program} {loose:List Str} {XP:(Str->Option Value)->Heap->Prop} {d:DefRec} {O:Frag->ObsT} {D:ObsT} {CX:CXT} {sp:PySem.W.Frag->Sp} {x:Str}
  (hn:l.most=some n) (hn2:n<=sizeLine) (hdf:d.params.defaults=[]) (hr:Room k callerA)
  (F:∀(w:World) (K:Frag) (mg:Str->Option Value) (fa:Addr) (h:Heap),K.In h->h.Ns mainGlobals mg->O K=D->mg d.name=some (.ref fa)->
   ∃fd:FuncData,(∀(s:Shared) (u:Value),BindsTo s fd ⟨[u],[]⟩ [(x,u)])/\
    ∀base:Heap,K.In base->base.Ns mainGlobals mg->FnOk l.prog w K mg base CX k fa fd [x] (sp K))
  (hsp:∀(K:PySem.W.Frag) (H:Hp) (a:Addr) (ns:List Int),ns.length<=n->Only H->SqL K H a (ns.map V.int)->sp K [.ref a] H (fun v _=>v=.bl true) fun _ _ _=>False)
  (hCX:∀(H:Hp) (s:Shared) (e:Value) (s':Shared),CX [] H s (fun _ _ _=>False) e s'->False) :
  PySem.W.WalkO q loose XP (zgG O D).says l.row.toRowW d [] (fun f vs=>PySem.call f vs):=by
 refine Att.ziP hn hdf fun w s₀ s₁ mg mb fa o pm cd doc a vs ns G Y ho hd hcd hmg hobj hints hlen hg=>?_
 obtain ⟨K,KX,e⟩:=Y;obtain ⟨fd,hb,hF⟩:=F w K mg fa _ KX G.T.g e hmg;exact znd KX G.T.g G.T.b G.T.builtins G.T.nolimit hg hobj hints (Nat.le_trans hlen hn2) hr hF hb (fun H hO hS=>hsp K H a ns hlen hO hS) fun H e s'=>hCX H s₁ e s'
end L2
namespace L2
open PySem PySem.Spec PySem.Calls PySem.W PyProof.Rows
section
variable {X:Cx}
end
section
variable {K:Frag} {mg:Str->Option Value} {top:Str} {xs ys:List Str}
end
end L2
namespace L2
open PySem PySem.W PySem.Calls PyProof.Rows
def topT (tb:String->Option Builtin) (p:Program) (w:World) (ann:Option Value):Nat->SharedT->Thread->Option SharedT
 | 0,_,_=>none
 | n+1,s,t=>match through t with
  | true=>some s
  | false=>match stepOk 11 ann t with
   | false=>none
   | true=>match stepT (denote tb) p w s t with
    | some (s',t')=>topT tb p w ann n s' t'
    | none=>none
theorem zlN {tb:String->Option Builtin} {p:Program} {w:World} {ann:Option Value}:∀{n:Nat} {s s':SharedT} {t:Thread},topT tb p w ann n s t=some s'->topRun tb p w 11 ann n s.abs t=some s'.abs
 | 0,_,_,_,h=>by cases h
 | n+1,s,s',t,h=>by
  unfold topT at h;unfold topRun
  cases he:through t with
  | true=>rw[he] at h;cases h;rfl
  | false=>
   rw[he] at h
   cases hk:stepOk 11 ann t with
   | false=>rw[hk] at h;cases h
   | true=>
    rw[hk] at h
    cases hs:stepT (denote tb) p w s t with
    | none=>rw[hs] at h;cases h
    | some r=>obtain ⟨s₂,t₂⟩:=r;rw[hs] at h;rw[stepT_spec hs];exact zlN h
def znx:List Obj->Nat->BT->BT
 | [],_,t=>t
 | o::r,n,t=>znx r (n+1) (t.ins n o)
def hdST (w:World) (os:OsState):SharedT:=⟨znx (boot_heap w.params).objs.toList 0 .nil,11,(boot_heap w.params).life,Array.mk [],boot_drawn,boot_toks,os⟩
theorem zpY (w:World) (os:OsState):(hdST w os).abs=hdS w os:=by
 show Shared.mk (absHeap _ 11 _) _ _ _ _=Shared.mk _ _ _ _ _
 congr 1
def hdT {α β:Type} (run:(String->Option PySem.Builtin)->Program->World->Option Value->Nat->SharedT->Thread->Option SharedT) (tt:String->Option PySem.Builtin) (im:List Stmt->List Str)
  (sn:Program->List Str->List Str->(Shared->Bool)->Bool->Shared->α) (p q:Program) (loose:List Str) (Xt:Shared->Bool) (Yf:Shared->β) (N:Nat) (w:World) (os:OsState):Option (Bool×α×β):=
 (run tt p w ((boot_heap w.params).nsMap mainGlobals "__annotations__") N (hdST w os) (topStub p)).map fun s=>((staticsOk (im p.main.body) (hdS w os).heap s.abs.heap&&namesBound p s.abs.heap&&gensDone s.abs&&laidKept (hdS w os).heap s.abs.heap),sn q loose (im p.main.body) Xt true s.abs,Yf s.abs)
theorem zq3 {α β:Type} {tt:String->Option PySem.Builtin} {im:List Stmt->List Str} {sn:Program->List Str->List Str->(Shared->Bool)->Bool->Shared->α} {p q:Program} {loose:List Str} {Xt:Shared->Bool} {Yf:Shared->β} {N:Nat} {w:World} {os:OsState} {x:Bool×α×β}
  (h:hdT topT tt im sn p q loose Xt Yf N w os=some x):hdF topRun tt im sn p q loose Xt Yf N w os=some x:=by
 obtain ⟨s,r,e⟩:=Option.map_eq_some_iff.mp h;have r':=zlN r;rw[zpY] at r';unfold hdF;rw[r',<-e];rfl
end L2
lay_quick L2.topT
namespace My
open PySem L2
lay_quick PySem.Challenge.pw_tautroads_k43_whole_nets_beside_one_anot
def QQ (p:Program):Program:=PySem.W.view p [1,2,3,4,5,6,7,9,10,11,12,13,14,15,16,17,18,19,20,22,23,24,25,26,27,29,30,31,32,33,35,37,38,39,41,42,43,44,45,46,48,49,50,51,53,54,55,56,57,58,59,60,61,62,63]
def lo:List Str:=["MOST_LENGTH","FAR"]
def lv:List (Str×PySem.W.WData):=[("MOST_LENGTH",PySem.W.WData.int 1000000000),("FAR",PySem.W.WData.int 40000000000)]
def Xt (p:Program) (s:Shared):Bool:=PySem.W.xlAt (QQ p) lv s&&PySem.W.recOk [] s
def stm (p:Program) (i:Nat):Stmt:=p.main.body.getD i (.Pass ⟨0,0,0,0⟩)
def fs (p:Program):List Stmt:=[stm p 53,stm p 55,stm p 54,stm p 56,stm p 57,stm p 58,stm p 12,stm p 13,stm p 14,stm p 22,stm p 23,stm p 24,stm p 25,stm p 26,stm p 59,stm p 27,stm p 31,stm p 30,stm p 38,stm p 39,stm p 16,stm p 32,stm p 19,stm p 35,stm p 60,stm p 61,stm p 15,stm p 17,stm p 41,stm p 43,stm p 33,stm p 37,stm p 44,stm p 42,stm p 45,stm p 46,stm p 50,stm p 49,stm p 51,stm p 18,stm p 20,stm p 62,stm p 63]
def bs:List Str:=["enumerate","int","len","list","max","range","sorted","sum","zip"]
def cs:List Str:=["FAR","MOST_LENGTH","MOST_PLACES","MOST_ROADS","MOST_STOPS"]
def is:List Int:=[40000000000,1000000000,20,60,7]
def xs:List (Str×Str×List Str):=[]
abbrev oo (p:Program):PySem.W.Frag->L2.ObsT:=L2.obs (fs p) bs cs xs
abbrev dd (p:Program):L2.ObsT:=L2.due (fs p) bs is xs
def zqB {α:Type} (gd:Program->List Str->α) (run:(String->Option PySem.Builtin)->Program->World->Option Value->Nat->PySem.W.SharedT->Thread->Option PySem.W.SharedT) (tt:String->Option PySem.Builtin) (im:List Stmt->List Str) (sn:Program->List Str->List Str->(Shared->Bool)->Bool->Shared->α) (p:Program):Prop:=
 ∀(w:World) (os:OsState),L2.hdT run tt im sn p (QQ p) lo (Xt p) (fun s=>oo p (L2.zk8 s.heap)) 6028 w os=some (true,gd (QQ p) lo,dd p)
theorem zqu:zqB PySem.W.openGood PySem.W.Fast.tw12425933026755589441 PySem.W.Fast.tw14364793385576792824 PySem.W.Fast.tw5923862056798008813 PySem.W.Fast.tw4187177175401517315 PySem.W.Fast.tw4056680841178074775:=fun w os=>by
 unfold L2.hdT
 kernel_rfl
theorem seen:zqB PySem.W.openGood L2.topT treeTable importedModules PySem.W.openSeen PySem.Challenge.pw_tautroads_k43_whole_nets_beside_one_anot:=by
 rw[PySem.W.Fast.te12425933026755589441,PySem.W.Fast.te14364793385576792824,PySem.W.Fast.te5923862056798008813,PySem.W.Fast.te4187177175401517315,PySem.W.Fast.te4056680841178074775];exact zqu
theorem left:PySem.W.LeftO PySem.Challenge.pw_tautroads_k43_whole_nets_beside_one_anot (QQ PySem.Challenge.pw_tautroads_k43_whole_nets_beside_one_anot) lo (Xt PySem.Challenge.pw_tautroads_k43_whole_nets_beside_one_anot) (L2.zgG (oo PySem.Challenge.pw_tautroads_k43_whole_nets_beside_one_anot) (dd PySem.Challenge.pw_tautroads_k43_whole_nets_beside_one_anot)).obs (L2.zgG (oo PySem.Challenge.pw_tautroads_k43_whole_nets_beside_one_anot) (dd PySem.Challenge.pw_tautroads_k43_whole_nets_beside_one_anot)).val 6028:=
 L2.znf (by decide) (by kernel_rfl) (fun s=>by kernel_rfl) fun w os=>L2.zq3 (seen w os)
end My
namespace L2
open PySem
set_option genInjectivity true
inductive O where
 | z
 | d (x:PyData)
 | l (xs:List O)
 | t (xs:List O)
 | x (c:Str)
 | g (o:HO)
 | q (xs:List V)
 deriving Inhabited
mutual
def fz:O->Option PyData
 | .d x=>some x
 | .l xs=>(fzs xs).map PyData.list
 | .t xs=>(fzs xs).map PyData.tuple
 | .z=>none
 | .x _=>none
 | .g _=>none
 | .q _=>none
def fzs:List O->Option (List PyData)
 | []=>some []
 | o::os=>match fz o,fzs os with
  | some a,some b=>some (a::b)
  | _,_=>none
end
theorem zre:∀xs:List PyData,fzs (xs.map O.d)=some xs
 | []=>by simp[fzs]
 | x::xs=>by simp[fzs,fz,zre xs]
def sub:List Nat->O->Option O
 | [],o=>some o
 | k::p,.l xs=>match xs[k]? with | some o=>sub p o | none=>none
 | k::p,.t xs=>match xs[k]? with | some o=>sub p o | none=>none
 | _::_,_=>none
def put:List Nat->O->O->O
 | [],n,_=>n
 | k::p,n,.l xs=>.l (match xs[k]? with | some o=>xs.set k (put p n o) | none=>xs)
 | k::p,n,.t xs=>.t (match xs[k]? with | some o=>xs.set k (put p n o) | none=>xs)
 | _::_,_,o=>o
abbrev Rho:=List O
inductive Rv where
 | own (o:O)
 | at (i:Nat) (p:List Nat)
 deriving Inhabited
def vw (ρ:Rho):Rv->Option O
 | .own o=>some o
 | .at i p=>match ρ[i]? with | some o=>sub p o | none=>none
def vn (ρ:Rho) (r:Rv):Option O:=match vw ρ r with | some .z=>none | o=>o
def pok (ρ:Rho) (q:Bool):Rv->Bool
 | .own _=>true
 | .at _ []=>true
 | .at i (k::p)=>q&&(vw ρ (.at i (k::p))).isSome
inductive Re (α:Type) where
 | bad
 | ok (a:α) (ρ:Rho) (q:Bool)
 | ex (c:Str) (ρ:Rho)
def Re.bind {α β:Type}:Re α->(α->Rho->Bool->Re β)->Re β
 | .bad,_=>.bad
 | .ok a ρ q,f=>f a ρ q
 | .ex c ρ,_=>.ex c ρ
@[simp] theorem Re.bind_bad {α β:Type} (f:α->Rho->Bool->Re β):Re.bind .bad f=.bad:=rfl
@[simp] theorem Re.bind_ok {α β:Type} (a:α) (ρ:Rho) (q:Bool) (f:α->Rho->Bool->Re β):Re.bind (.ok a ρ q) f=f a ρ q:=rfl
@[simp] theorem Re.bind_ex {α β:Type} (c:Str) (ρ:Rho) (f:α->Rho->Bool->Re β):Re.bind (.ex c ρ) f=.ex c ρ:=rfl
abbrev EF:=Rho->Re Rv
abbrev TF:=Rho->Re Bool
abbrev AF:=Rho->Re (List Rv)
inductive Rt where
 | bad
 | nx (ρ:Rho)
 | br (ρ:Rho)
 | ct (ρ:Rho)
 | rt (o:O) (ρ:Rho)
 | ex (c:Str) (ρ:Rho)
abbrev SF:=Rho->Rt
inductive Rc where
 | bad
 | ok (o:O) (outs:List O)
 | ex (c:Str) (outs:List O)
abbrev FC:=List O->Rc
def coe (ρ:Rho):Rv->Option (O×Rho)
 | .own o=>some (o,ρ)
 | .at i p=>match ρ[i]? with
  | none=>none
  | some oi=>match sub p oi with
   | some (.d x)=>some (.d x,ρ)
   | some (.x c)=>some (.x c,ρ)
   | some (.g o)=>some (.g o,ρ)
   | some (.q o)=>some (.q o,ρ)
   | some o=>match fz oi,fz o with
    | some xi,some x=>some (.d x,ρ.set i (.d xi))
    | _,_=>none
   | none=>none
def mov (ρ:Rho):Rv->Option (O×Rho)
 | .own o=>some (o,ρ)
 | .at i []=>match ρ[i]? with
  | some .z=>none
  | some o=>some (o,ρ.set i .z)
  | none=>none
 | .at i (k::p)=>coe ρ (.at i (k::p))
def QOk (K:PySem.W.Frag) (H:Hp) (W:Addr->Prop) (a:Addr) (xs:List V):Prop:=(Rd H a (.lst xs)/\¬W a)\/
  ∃(o:Obj) (its:Array Value) (n:Nat),K.lookup a=some o/\o.cls=.type "list"/\o.dict=none/\o.data=.seq its n/\its.size<=sizeLine/\Vals xs its.toList
theorem QOk.sq {K:PySem.W.Frag} {H:Hp} {W:Addr->Prop} {a:Addr} {xs:List V} (h:QOk K H W a xs):SqL K H a xs:=h.imp (fun z=>z.1) id
section
variable (mg:Str->Option Value) (K:PySem.W.Frag)
mutual
inductive Ow (H:Hp) (W:Addr->Prop):V->O->List Addr->Prop where
 | z (v:V):Ow H W v .z []
 | d {v:V} {x:PyData}:Dn H W v x->Ow H W v (.d x) []
 | l {a:Addr} {vs:List V} {os:List O} {As:List Addr}:H a=some (.lst vs)->Ows H W vs os As->Ow H W (.ref a) (.l os) (a::As)
 | t {a:Addr} {vs:List V} {os:List O} {As:List Addr}:¬W a->H a=some (.tup vs)->Ows H W vs os As->Ow H W (.ref a) (.t os) As
 | x {a C:Addr} {c:Str}:¬W a->H a=some (.ext (XAt a C))->XCls K C->mg c=some (.ref C)->Ow H W (.ref a) (.x c) []
 | g {a:Addr} {o:HO}:¬W a->H a=some o->Ow H W (.ref a) (.g o) []
 | q {a:Addr} {xs:List V}:QOk K H W a xs->Ow H W (.ref a) (.q xs) []
inductive Ows (H:Hp) (W:Addr->Prop):List V->List O->List Addr->Prop where
 | nil:Ows H W [] [] []
 | cons {v:V} {o:O} {vs:List V} {os:List O} {A B:List Addr}:Ow H W v o A->Ows H W vs os B->Ows H W (v::vs) (o::os) (A++B)
end
end
section
variable {mg:Str->Option Value} {K:PySem.W.Frag} {H H':Hp} {W W':Addr->Prop}
theorem Ows.length {vs:List V} {os:List O} {As:List Addr} (h:Ows mg K H W vs os As):vs.length=os.length:=
 Ows.rec (motive_1:=fun _ _ _ _=>True) (motive_2:=fun vs os _ _=>vs.length=os.length) (fun _=>trivial) (fun _=>trivial) (fun _ _ _=>trivial) (fun _ _ _ _=>trivial) (fun _ _ _ _=>trivial) (fun _ _=>trivial) (fun _=>trivial) rfl (fun _ _ _ ih=>by rw[List.length_cons,List.length_cons,ih]) h
def DMv (H:Hp) (W:Addr->Prop) (H':Hp) (W':Addr->Prop):Prop:=∀a o,H a=some o->¬W a->H' a=some o/\¬W' a
theorem Dn.on (m:DMv H W H' W') {v:V} {d:PyData} (h:Dn H W v d):Dn H' W' v d:=h.mapX m
theorem Dns.on (m:DMv H W H' W') {v:List V} {d:List PyData} (h:Dns H W v d):Dns H' W' v d:=h.mapX m
theorem DMv.q (m:DMv H W H' W') {a:Addr} {xs:List V} (h:QOk K H W a xs):QOk K H' W' a xs:=by
 rcases h with ⟨h | ⟨o,h⟩,n⟩ | h
 .exact .inl ⟨.inl (m _ _ h n).1,(m _ _ h n).2⟩
 .exact .inl ⟨.inr ⟨o,(m _ _ h n).1⟩,(m _ _ h n).2⟩
 .exact .inr h
theorem Ow.on (m:DMv H W H' W') {v:V} {o:O} {As:List Addr} (h:Ow mg K H W v o As):(∀x∈As,H' x=H x)->Ow mg K H' W' v o As:=
 Ow.rec (motive_1:=fun v o As _=>(∀x∈As,H' x=H x)->Ow mg K H' W' v o As) (motive_2:=fun v o As _=>(∀x∈As,H' x=H x)->Ows mg K H' W' v o As)
  (fun v _=>.z v) (fun h _=>.d (h.on m)) (fun h _ ih e=>.l (by rw[e _ List.mem_cons_self];exact h) (ih fun x hx=>e x (List.mem_cons_of_mem _ hx))) (fun n h _ ih e=>.t (m _ _ h n).2 (m _ _ h n).1 (ih e)) (fun n h c g _=>.x (m _ _ h n).2 (m _ _ h n).1 c g)
  (fun n h _=>.g (m _ _ h n).2 (m _ _ h n).1) (fun h _=>.q (m.q h)) (fun _=>.nil) (fun _ _ i1 i2 e=>.cons (i1 fun x hx=>e x (List.mem_append_left _ hx)) (i2 fun x hx=>e x (List.mem_append_right _ hx))) h
theorem Ows.on (m:DMv H W H' W') {v:List V} {o:List O} {As:List Addr} (h:Ows mg K H W v o As):(∀x∈As,H' x=H x)->Ows mg K H' W' v o As:=
 Ows.rec (motive_1:=fun v o As _=>(∀x∈As,H' x=H x)->Ow mg K H' W' v o As) (motive_2:=fun v o As _=>(∀x∈As,H' x=H x)->Ows mg K H' W' v o As)
  (fun v _=>.z v) (fun h _=>.d (h.on m)) (fun h _ ih e=>.l (by rw[e _ List.mem_cons_self];exact h) (ih fun x hx=>e x (List.mem_cons_of_mem _ hx))) (fun n h _ ih e=>.t (m _ _ h n).2 (m _ _ h n).1 (ih e)) (fun n h c g _=>.x (m _ _ h n).2 (m _ _ h n).1 c g)
  (fun n h _=>.g (m _ _ h n).2 (m _ _ h n).1) (fun h _=>.q (m.q h)) (fun _=>.nil) (fun _ _ i1 i2 e=>.cons (i1 fun x hx=>e x (List.mem_append_left _ hx)) (i2 fun x hx=>e x (List.mem_append_right _ hx))) h
theorem dn_l {a:Addr} {vs:List V} {os:List O} {As:List Addr} (h:H a=some (.lst vs)) (_:Ows mg K H W vs os As) (ih:∀x,fzs os=some x->(∀x∈As,¬W' x)->Dns H W' vs x) (x:PyData) (e:fz (.l os)=some x) (n:∀x∈a::As,¬W' x):Dn H W' (.ref a) x:=by
 rw[fz] at e
 cases q:fzs os with
 | none=>rw[q] at e;cases e
 | some xs=>
  rw[q] at e;cases e;exact .lst (n _ List.mem_cons_self) h (ih xs q fun x hx=>n x (List.mem_cons_of_mem _ hx))
theorem dn_t (s:∀a,W' a->W a) {a:Addr} {vs:List V} {os:List O} {As:List Addr} (k:¬W a) (h:H a=some (.tup vs)) (_:Ows mg K H W vs os As) (ih:∀x,fzs os=some x->(∀x∈As,¬W' x)->Dns H W' vs x) (x:PyData) (e:fz (.t os)=some x) (n:∀x∈As,¬W' x):Dn H W' (.ref a) x:=by
 rw[fz] at e
 cases q:fzs os with
 | none=>rw[q] at e;cases e
 | some xs=>
  rw[q] at e;cases e;exact .tup (fun z=>k (s _ z)) h (ih xs q n)
theorem dn_c {v:V} {o:O} {vs:List V} {os:List O} {A B:List Addr} (_:Ow mg K H W v o A) (_:Ows mg K H W vs os B) (i1:∀x,fz o=some x->(∀x∈A,¬W' x)->Dn H W' v x) (i2:∀x,fzs os=some x->(∀x∈B,¬W' x)->Dns H W' vs x) (x:List PyData) (e:fzs (o::os)=some x) (n:∀x∈A++B,¬W' x):Dns H W' (v::vs) x:=by
 rw[fzs] at e
 cases q:fz o with
 | none=>rw[q] at e;cases e
 | some y=>
  cases r:fzs os with
  | none=>rw[q,r] at e;cases e
  | some ys=>
   rw[q,r] at e;cases e;exact .cons (i1 y q fun x hx=>n x (List.mem_append_left _ hx)) (i2 ys r fun x hx=>n x (List.mem_append_right _ hx))
theorem Ow.dn (s:∀a,W' a->W a) {v:V} {o:O} {As:List Addr} {x:PyData} (h:Ow mg K H W v o As) (e:fz o=some x) (n:∀x∈As,¬W' x):Dn H W' v x:=
 Ow.rec (motive_1:=fun v o As _=>∀x,fz o=some x->(∀x∈As,¬W' x)->Dn H W' v x) (motive_2:=fun v o As _=>∀x,fzs o=some x->(∀x∈As,¬W' x)->Dns H W' v x)
  (fun v x e _=>by rw[fz] at e;cases e) (fun h x e _=>by cases e;exact h.weak s) dn_l (dn_t s) (fun _ _ _ _ x e _=>by rw[fz] at e;cases e) (fun _ _ x e _=>by rw[fz] at e;cases e) (fun _ x e _=>by rw[fz] at e;cases e)
  (fun x e _=>by rw[fzs] at e;cases e;exact .nil) dn_c h _ e n
theorem Ow.plain {v:V} {o:O} {As:List Addr} {x:PyData} (h:Ow mg K H W v o As) (e:fz o=some x):Dn H (fun _=>False) v x:=h.dn (fun _ z=>z.elim) e fun _ _ z=>z
theorem Ows.ofD:∀{vs:List V} {ds:List PyData},Dns H W vs ds->Ows mg K H W vs (ds.map O.d) []
 | _,_,.nil=>.nil
 | _,_,.cons a b=>.cons (A:=[]) (.d a) (Ows.ofD b)
theorem Ows.toD:∀{vs:List V} {ds:List PyData} {As:List Addr},Ows mg K H W vs (ds.map O.d) As->Dns H W vs ds/\As=[]
 | _,[],_,h=>by cases h;exact ⟨.nil,rfl⟩
 | _,d::ds,_,h=>by
  cases h with
  | cons a b=>
   cases a with
   | d h=>obtain ⟨q,rfl⟩:=Ows.toD b;exact ⟨.cons h q,rfl⟩
theorem Ows.get:∀{vs:List V} {os:List O} {As:List Addr} {i:Nat} {o:O},Ows mg K H W vs os As->os[i]? = some o->∃v A,vs[i]? = some v/\Ow mg K H W v o A/\A.Sublist As
 | _,_,_,_,_,.nil,e=>by simp at e
 | _,_,_,0,_,.cons a b,e=>by simp at e;subst e;exact ⟨_,_,rfl,a,List.sublist_append_left _ _⟩
 | _,_,_,i+1,o,.cons a b,e=>by
  obtain ⟨v,A,h1,h2,h3⟩:=Ows.get (i:=i) (o:=o) b (by simpa using e);exact ⟨v,A,by simpa using h1,h2,h3.trans (List.sublist_append_right _ _)⟩
theorem Ows.app {vs ws:List V} {os us:List O} {A B:List Addr} (h:Ows mg K H W vs os A) (s:Ows mg K H W ws us B):Ows mg K H W (vs++ws) (os++us) (A++B):=
 Ows.rec (motive_1:=fun _ _ _ _=>True) (motive_2:=fun vs os A _=>Ows mg K H W (vs++ws) (os++us) (A++B)) (fun _=>trivial) (fun _=>trivial) (fun _ _ _=>trivial) (fun _ _ _ _=>trivial) (fun _ _ _ _=>trivial) (fun _ _=>trivial) (fun _=>trivial) s (fun a _ _ ih=>by rw[List.append_assoc];exact .cons a ih) h
def els:O->Option (Bool×List O)
 | .d (.list ds)=>some (true,ds.map O.d)
 | .d (.tuple ds)=>some (false,ds.map O.d)
 | .l os=>some (true,os)
 | .t os=>some (false,os)
 | _=>none
theorem Ow.els {v:V} {o:O} {As:List Addr} {k:Bool} {os:List O} (h:Ow mg K H W v o As) (e:els o=some (k,os)) :
  ∃a vs A,v=.ref a/\H a=some (if k then .lst vs else .tup vs)/\Ows mg K H W vs os A/\A.Sublist As:=by
 cases h with
 | z=>cases e
 | d h=>
  cases h with
  | lst n q t=>cases e;exact ⟨_,_,_,rfl,q,.ofD t,.refl _⟩
  | tup n q t=>cases e;exact ⟨_,_,_,rfl,q,.ofD t,.refl _⟩
  | _=>cases e
 | l q t=>cases e;exact ⟨_,_,_,rfl,q,t,List.sublist_cons_self _ _⟩
 | t n q t=>cases e;exact ⟨_,_,_,rfl,q,t,.refl _⟩
 | x=>cases e
 | g=>cases e
 | q=>cases e
def lds:List O->Option (List PyData)
 | []=>some []
 | .d x::os=>(lds os).map (x::·)
 | _=>none
theorem ze2:∀xs:List PyData,lds (xs.map O.d)=some xs
 | []=>rfl
 | x::xs=>by simp[lds,ze2 xs]
theorem zkP:∀{os:List O} {ds:List PyData},lds os=some ds->os=ds.map O.d
 | [],ds,e=>by cases e;rfl
 | .d x::os,ds,e=>by
  rw[lds] at e
  cases q:lds os with
  | none=>rw[q] at e;cases e
  | some xs=>rw[q] at e;cases e;rw[zkP q];rfl
 | .z::_,_,e=>by cases e
 | .l _::_,_,e=>by cases e
 | .t _::_,_,e=>by cases e
 | .x _::_,_,e=>by cases e
 | .g _::_,_,e=>by cases e
 | .q _::_,_,e=>by cases e
end
section
variable {mg:Str->Option Value} {K:PySem.W.Frag} {H H':Hp} {W W':Addr->Prop}
def VAt (H:Hp):List Nat->V->V->Prop
 | [],v,u=>v=u
 | k::p,v,u=>∃a vs w,v=.ref a/\(H a=some (.lst vs)\/H a=some (.tup vs))/\vs[k]? = some w/\VAt H p w u
theorem Ow.sub {p:List Nat}:∀{v:V} {o n:O} {As:List Addr},Ow mg K H W v o As->sub p o=some n->∃u A,VAt H p v u/\Ow mg K H W u n A/\A.Sublist As:=by
 induction p with
 | nil=>intro v o n As h e;cases e;exact ⟨_,_,rfl,h,.refl _⟩
 | cons k p ih=>
  intro v o n As h e
  cases h with
  | @l a vs os As qq tt=>
   rw[L2.sub] at e
   cases r:os[k]? with
   | none=>rw[r] at e;cases e
   | some o=>
    rw[r] at e;obtain ⟨w,A,h1,h2,h3⟩:=tt.get r;obtain ⟨u,B,g1,g2,g3⟩:=ih h2 e;exact ⟨u,B,⟨_,_,_,rfl,.inl qq,h1,g1⟩,g2,g3.trans (h3.trans (List.sublist_cons_self _ _))⟩
  | @t a vs os As nw qq tt=>
   rw[L2.sub] at e
   cases r:os[k]? with
   | none=>rw[r] at e;cases e
   | some o=>
    rw[r] at e;obtain ⟨w,A,h1,h2,h3⟩:=tt.get r;obtain ⟨u,B,g1,g2,g3⟩:=ih h2 e;exact ⟨u,B,⟨_,_,_,rfl,.inr qq,h1,g1⟩,g2,g3.trans h3⟩
  | _=>cases e
theorem VAt.inj {p:List Nat}:∀{v u w:V},VAt H p v u->VAt H p v w->u=w:=by
 induction p with
 | nil=>intro v u w h k;exact h.symm.trans k
 | cons k p ih=>
  intro v u w h1 h2;obtain ⟨a,vs,x,e,h,q,r⟩:=h1;obtain ⟨b,ws,y,e',h',q',r'⟩:=h2;rw[e] at e'
  cases e'
  have:vs=ws:=by
   rcases h with h | h<;>rcases h' with h' | h'<;>rw[h] at h'<;>cases h'<;>rfl
  subst this;rw[q] at q'
  cases q'
  exact ih r r'
theorem VAt.app:∀{p q:List Nat} {v u w:V},VAt H p v u->VAt H q u w->VAt H (p++q) v w
 | [],_,_,_,_,h,k=>by rw[show _=_ from h];exact k
 | _::p,q,_,_,_,⟨a,vs,x,e,h,g,r⟩,k=>⟨a,vs,x,e,h,g,VAt.app r k⟩
theorem Ows.swap:∀{vs:List V} {os:List O} {As:List Addr} {k:Nat} {w:V} {o n:O} {A:List Addr},Ows mg K H W vs os As->As.Nodup->os[k]? = some o->vs[k]? = some w->
  (∀B:List Addr,Ow mg K H W w o B->List.Sublist B As->∃C:List Addr,Ow mg K H' W w n C/\C.Nodup/\(∀x∈C,x∈B\/x∈A)/\∀x,x∉B->H' x=H x)->(∀x∈A,x∉As)->DMv H W H' W->
  ∃C:List Addr,Ows mg K H' W vs (os.set k n) C/\C.Nodup/\(∀x∈C,x∈As\/x∈A)/\∃B:List Addr,B.Sublist As/\∀x,x∉B->H' x=H x
 | _,_,_,_,_,_,_,_,.nil,_,e,_,_,_,_=>by simp at e
 | _,_,_,0,_,_,n,A,.cons (A:=B) (B:=D) a b,nd,e,e',f,fr,m=>by
  simp at e e';subst e e';obtain ⟨C,h1,h2,h3,h4⟩:=f B a (List.sublist_append_left _ _);have nd':=List.nodup_append.mp nd;refine ⟨C++D,.cons h1 (Ows.on m b fun x hx=>h4 x fun hb=>nd'.2.2 x hb x hx rfl),List.nodup_append.mpr ⟨h2,nd'.2.1,fun x hx y hy z=>?_⟩,fun x hx=>?_,B,List.sublist_append_left _ _,h4⟩
  .subst z;rcases h3 x hx with q | q
   .exact nd'.2.2 x q x hy rfl
   .exact fr x q (List.mem_append_right _ hy)
  .rcases List.mem_append.mp hx with q | q
   .exact (h3 x q).imp (List.mem_append_left _) id
   .exact .inl (List.mem_append_right _ q)
 | _,_,_,k+1,w,o,n,A,.cons (A:=B) (B:=D) a b,nd,e,e',f,fr,m=>by
  have nd':=List.nodup_append.mp nd;obtain ⟨C,h1,h2,h3,E,h4,h5⟩:=Ows.swap (k:=k) (w:=w) (o:=o) (n:=n) (A:=A) b nd'.2.1 (by simpa using e) (by simpa using e') (fun F hF sF=>f F hF (sF.trans (List.sublist_append_right _ _))) (fun x hx hd=>fr x hx (List.mem_append_right _ hd)) m;refine ⟨B++C,.cons (Ow.on m a fun x hx=>h5 x fun hb=>nd'.2.2 x hx x (h4.subset hb) rfl) (by simpa using h1),List.nodup_append.mpr ⟨nd'.1,h2,fun x hx y hy z=>?_⟩,fun x hx=>?_,E,h4.trans (List.sublist_append_right _ _),h5⟩
  .subst z;rcases h3 x hy with q | q
   .exact nd'.2.2 x hx x q rfl
   .exact fr x q (List.mem_append_left _ hx)
  .rcases List.mem_append.mp hx with q | q
   .exact .inl (List.mem_append_left _ q)
   .exact (h3 x q).imp (List.mem_append_right _) id
theorem Ow.put {p:List Nat}:∀{v:V} {o:O} {As:List Addr} {os os':List O} {a:Addr} {vs':List V} {A:List Addr},Ow mg K H W v o As->As.Nodup->L2.sub p o=some (.l os)->VAt H p v (.ref a)->W a->
  (∀vs B,Ows mg K H W vs os B->H a=some (.lst vs)->B.Nodup->a∉B->(∀x∈B,x∈As)->∃C,Ows mg K (upd H a (.lst vs')) W vs' os' C/\C.Nodup/\a∉C/\∀x∈C,x∈B\/x∈A)->(∀x∈A,x∉As)->
  ∃C,Ow mg K (upd H a (.lst vs')) W v (L2.put p (.l os') o) C/\C.Nodup/\(∀x∈C,x∈As\/x∈A)/\a∈As:=by
 induction p with
 | nil=>
  intro v o As os os' a vs' A h nd e qq wa f fr;cases e
  cases (show _=V.ref a from qq)
  cases h with
  | l h tt=>
   have nd':=List.nodup_cons.mp nd;obtain ⟨C,h1,h2,h3,h4⟩:=f _ _ tt h nd'.2 nd'.1 fun x hx=>List.mem_cons_of_mem _ hx
   refine ⟨_,.l zbG h1,List.nodup_cons.mpr ⟨h3,h2⟩,fun x hx=>?_,List.mem_cons_self⟩;rcases List.mem_cons.mp hx with rfl | hx
   .exact .inl List.mem_cons_self
   .exact (h4 x hx).imp (List.mem_cons_of_mem _) id
 | cons k p ih=>
  intro v o Bs os os' a vs' A h nd e qq wa f fr;obtain ⟨b',ws',w,eb,hb,hw,qq⟩:=qq;have m:DMv H W (upd H a (.lst vs')) W:=fun c ob hc nc=>⟨by rw[zaJ (fun z=>nc (by rw[z];exact wa))];exact hc,nc⟩
  cases h with
  | @l b ws us As h tt=>
   cases eb;rcases hb with hb | hb<;>rw[h] at hb<;>cases hb;rw[L2.sub] at e;rw[L2.put]
   cases r:us[k]? with
   | none=>rw[r] at e;cases e
   | some o=>
    rw[r] at e;have nd':=List.nodup_cons.mp nd;have sub1:∀{B:List Addr},Ow mg K H W w o B->B.Sublist As->∃C,Ow mg K (upd H a (.lst vs')) W w (L2.put p (.l os') o) C/\C.Nodup/\(∀x∈C,x∈B\/x∈A)/\a∈B:=fun hB sB=>
     ih hB (nd'.2.sublist sB) e qq wa (fun vs B' x1 x2 x3 x4 x5=>f vs B' x1 x2 x3 x4 fun x hx=>List.mem_cons_of_mem _ (sB.subset (x5 x hx))) (fun x hx z=>fr x hx (List.mem_cons_of_mem _ (sB.subset z)))
    obtain ⟨w',A',g1,g2,g3⟩:=tt.get r;rw[hw] at g1;cases g1;have hin:a∈As:=by
     obtain ⟨C,h1,h2,h3,h4⟩:=sub1 g2 g3;exact g3.subset h4
    obtain ⟨C,h1,h2,h3,E,h4,h5⟩:=Ows.swap (H':=upd H a (.lst vs')) (n:=L2.put p (.l os') o) (A:=A) tt nd'.2 r hw (fun B hB sB=>by
     obtain ⟨C,h1,h2,h3,h4⟩:=sub1 hB sB;exact ⟨C,h1,h2,h3,fun x hx=>zaJ fun z=>hx (z ▸ h4)⟩) (fun x hx z=>fr x hx (List.mem_cons_of_mem _ z)) m
    refine ⟨_::C,.l (by rw[zaJ (show b'≠a from fun z=>nd'.1 (z ▸ hin))];exact h) h1,List.nodup_cons.mpr ⟨fun z=>?_,h2⟩,fun x hx=>?_,List.mem_cons_of_mem _ hin⟩
    .rcases h3 _ z with z | z
     .exact nd'.1 z
     .exact fr _ z List.mem_cons_self
    .rcases List.mem_cons.mp hx with rfl | hx
     .exact .inl List.mem_cons_self
     .exact (h3 x hx).imp (List.mem_cons_of_mem _) id
  | @t b ws us As nw h tt=>
   cases eb;rcases hb with hb | hb<;>rw[h] at hb<;>cases hb;rw[L2.sub] at e;rw[L2.put]
   cases r:us[k]? with
   | none=>rw[r] at e;cases e
   | some o=>
    rw[r] at e;have sub1:∀{B:List Addr},Ow mg K H W w o B->B.Sublist Bs->∃C,Ow mg K (upd H a (.lst vs')) W w (L2.put p (.l os') o) C/\C.Nodup/\(∀x∈C,x∈B\/x∈A)/\a∈B:=fun hB sB=>
     ih hB (nd.sublist sB) e qq wa (fun vs B' x1 x2 x3 x4 x5=>f vs B' x1 x2 x3 x4 fun x hx=>sB.subset (x5 x hx)) (fun x hx z=>fr x hx (sB.subset z))
    obtain ⟨w',A',g1,g2,g3⟩:=tt.get r;rw[hw] at g1;cases g1;have hin:a∈Bs:=by
     obtain ⟨C,h1,h2,h3,h4⟩:=sub1 g2 g3;exact g3.subset h4
    obtain ⟨C,h1,h2,h3,E,h4,h5⟩:=Ows.swap (H':=upd H a (.lst vs')) (n:=L2.put p (.l os') o) (A:=A) tt nd r hw (fun B hB sB=>by
     obtain ⟨C,h1,h2,h3,h4⟩:=sub1 hB sB;exact ⟨C,h1,h2,h3,fun x hx=>zaJ fun z=>hx (z ▸ h4)⟩) (fun x hx z=>fr x hx z) m
    exact ⟨C,.t nw (by rw[zaJ (show b'≠a from fun z=>nw (by rw[z];exact wa))];exact h) h1,h2,h3,hin⟩
  | _=>cases e
end
abbrev Fp:=Nat->List Addr
def Inn (f:Fp) (x:Addr):Prop:=∃i,x∈f i
structure Fam (f:Fp):Prop where
 nd:∀i,(f i).Nodup
 ap:∀i j,i≠j->∀x,x∈f i->x∉f j
def fset (f:Fp) (i:Nat) (A:List Addr):Fp:=fun j=>if j=i then A else f j
theorem zbt {f:Fp} {i:Nat} {A:List Addr}:fset f i A i=A:=if_pos rfl
theorem zbU {f:Fp} {i j:Nat} {A:List Addr} (h:j≠i):fset f i A j=f j:=if_neg h
theorem Fam.set {f:Fp} {i:Nat} {A:List Addr} (h:Fam f) (nd:A.Nodup) (ap:∀x∈A,∀j,j≠i->x∉f j):Fam (fset f i A):=⟨fun j=>by
 by_cases e:j=i
 .subst e;rw[zbt];exact nd
 .rw[zbU e];exact h.nd j,fun j k hjk x hx=>by
 by_cases e:j=i
 .subst e;rw[zbt] at hx;rw[zbU hjk.symm];exact ap x hx k hjk.symm
 .rw[zbU e] at hx
  by_cases e':k=i
  .subst e';rw[zbt];exact fun z=>ap x z j e hx
  .rw[zbU e'];exact h.ap j k hjk x hx⟩
theorem Inn.set {f:Fp} {i:Nat} {A:List Addr} {x:Addr} (h:Inn (fset f i A) x):Inn f x\/x∈A:=by
 obtain ⟨j,hj⟩:=h
 by_cases e:j=i
 .subst e;rw[zbt] at hj;exact .inr hj
 .rw[zbU e] at hj;exact .inl ⟨j,hj⟩
structure Mv (A:Addr->Prop) (H:Hp) (W:Addr->Prop) (A':Addr->Prop) (H':Hp) (W':Addr->Prop):Prop where
 same:∀b o,H b=some o->¬A b->H' b=some o
 less:∀x,W' x->W x\/H x=none
 more:∀x,W x->A x\/W' x
 ours:∀x,A' x->A x\/H x=none
 sub:∀x,A x->W x
 dom:∀x,W x->H x≠none
 sub':∀x,A' x->W' x
 dom':∀x,W' x->H' x≠none
section
variable {A A1 A2 A':Addr->Prop} {H H1 H2 H':Hp} {W W1 W2 W':Addr->Prop}
theorem Mv.refl (s:∀x,A x->W x) (d:∀x,W x->H x≠none):Mv A H W A H W:=⟨fun _ _ h _=>h,fun _ h=>.inl h,fun _ h=>.inr h,fun _ h=>.inl h,s,d,s,d⟩
theorem Mv.trans (a:Mv A H W A1 H1 W1) (b:Mv A1 H1 W1 A2 H2 W2):Mv A H W A2 H2 W2:=by
 have k:∀x,H1 x=none->A x\/H x=none:=fun x h=>by
  cases q:H x with
  | none=>exact .inr rfl
  | some o=>
   by_cases hA:A x
   .exact .inl hA
   .rw[a.same x o q hA] at h;cases h
 refine ⟨fun x o h n=>b.same x o (a.same x o h n) fun z=>(a.ours x z).elim n fun q=>(by rw[h] at q;cases q),fun x h=>?_,fun x h=>?_,fun x h=>?_,a.sub,a.dom,b.sub',b.dom'⟩
 .rcases b.less x h with q | q
  .exact a.less x q
  .exact (k x q).imp (a.sub x) id
 .rcases a.more x h with q | q
  .exact .inl q
  .rcases b.more x q with r | r
   .exact (a.ours x r).imp id fun q=>absurd q (a.dom x h)
   .exact .inr r
 .rcases b.ours x h with q | q
  .exact a.ours x q
  .exact k x q
theorem Mv.d (m:Mv A H W A' H' W'):DMv H W H' W':=fun a o h n=>⟨m.same a o h fun z=>n (m.sub a z),fun z=>(m.less a z).elim n fun q=>by rw[h] at q;cases q⟩
theorem Mv.wide (m:Mv A H W A' H' W') (h:∀x,A x->A1 x) (s:∀x,A1 x->W x):Mv A1 H W A' H' W':=⟨fun b o e n=>m.same b o e fun z=>n (h b z),m.less,fun x w=>(m.more x w).imp (h x) id,fun x a=>(m.ours x a).imp (h x) id,s,m.dom,m.sub',m.dom'⟩
theorem Mv.narrow (m:Mv A H W A' H' W') (h:∀x,A1 x->A' x):Mv A H W A1 H' W':=⟨m.same,m.less,m.more,fun x a=>m.ours x (h x a),m.sub,m.dom,fun x a=>m.sub' x (h x a),m.dom'⟩
theorem Mv.hand (m:Mv A H W A' H' W') {x:Addr} (w:W x) (n:¬A x):W' x/\H' x=H x:=⟨(m.more x w).resolve_left n,by
 cases q:H x with
 | none=>exact absurd q (m.dom x w)
 | some o=>exact m.same x o q n⟩
theorem Mv.apart (m:Mv A H W A' H' W') {x:Addr} (w:W x) (n:¬A x):¬A' x:=fun z=>(m.ours x z).elim n (m.dom x w)
theorem Mv.put {p:Addr} {o:HO} (s:∀x,A x->W x) (d:∀x,W x->H x≠none) (h:A p):Mv A H W A (upd H p o) W:=
 ⟨fun b u e n=>by rw[zaJ (fun z=>n (by rw[z];exact h))];exact e,fun _ h=>.inl h,fun _ h=>.inr h,fun _ h=>.inl h,s,d,s,fun x w=>by
  by_cases e:x=p
  .subst e;rw[zbG];exact fun z=>by cases z
  .rw[zaJ e];exact d x w⟩
end
section
variable (mg:Str->Option Value) (K:PySem.W.Frag)
structure Sl (H:Hp) (W:Addr->Prop) (σ:St) (ρ:Rho) (f:Fp):Prop where
 sl:∀(i:Nat) (o:O),ρ[i]? = some o->(o=.z/\f i=[])\/∃v,σ[i]? = some (some v)/\Ow mg K H W v o (f i)
 no:∀i,ρ.length<=i->f i=[]
 len:ρ.length=σ.length
 fam:Fam f
structure Hd (H:Hp) (W:Addr->Prop) (vs:List V) (os:List O) (f:Fp):Prop where
 hd:∀(i:Nat) (o:O),os[i]? = some o->∃v,vs[i]? = some v/\Ow mg K H W v o (f i)
 no:∀i,os.length<=i->f i=[]
 len:vs.length=os.length
 fam:Fam f
def RvOk (H:Hp) (W:Addr->Prop) (σ:St) (v:V):Rv->List Addr->Prop
 | .own o,B=>Ow mg K H W v o B/\B.Nodup
 | .at i p,B=>B=[]/\∃u,σ[i]? = some (some u)/\VAt H p u v
end
section
variable {mg:Str->Option Value} {K:PySem.W.Frag} {A A':Addr->Prop} {H H':Hp} {W W':Addr->Prop} {σ σ':St} {ρ ρ':Rho} {f g:Fp}
theorem Sl.on (s:Sl mg K H W σ ρ f) (m:DMv H W H' W') (e:∀x,Inn f x->H' x=H x):Sl mg K H' W' σ ρ f:=
 ⟨fun i o h=>(s.sl i o h).imp id fun ⟨v,h1,h2⟩=>⟨v,h1,h2.on m fun x hx=>e x ⟨i,hx⟩⟩,s.no,s.len,s.fam⟩
theorem DMv.weak (h:∀x,W' x->W x):DMv H W H W':=fun a o e n=>⟨e,fun z=>n (h a z)⟩
theorem Sl.set {i:Nat} {o:O} {v:V} {B:List Addr} (s:Sl mg K H W σ ρ f) (hi:i < ρ.length) (h:Ow mg K H W v o B) (nd:B.Nodup) (ap:∀x∈B,∀j,j≠i->x∉f j):Sl mg K H W (σ.set i (some v)) (ρ.set i o) (fset f i B):=by
 refine ⟨fun j u e=>?_,fun j hj=>?_,by rw[List.length_set,List.length_set];exact s.len,s.fam.set nd ap⟩
 .by_cases q:j=i
  .subst q;rw[List.getElem?_set_self hi] at e;cases e;exact .inr ⟨v,by rw[List.getElem?_set_self (by rw[<-s.len];exact hi)],by rw[zbt];exact h⟩
  .rw[List.getElem?_set_ne (Ne.symm q)] at e;rw[List.getElem?_set_ne (Ne.symm q),zbU q];exact s.sl j u e
 .rw[List.length_set] at hj;rw[zbU (by omega)];exact s.no j hj
theorem Sl.setS {i:Nat} {o:O} {v:V} {B:List Addr} (s:Sl mg K H W σ ρ f) (hi:σ[i]? = some (some v)) (h:Ow mg K H W v o B) (nd:B.Nodup) (ap:∀x∈B,∀j,j≠i->x∉f j):Sl mg K H W σ (ρ.set i o) (fset f i B):=by
 have hl:i < σ.length:=by
  by_cases q:i < σ.length
  .exact q
  .rw[List.getElem?_eq_none (by omega)] at hi;cases hi
 have:=s.set (i:=i) (v:=v) (by rw[s.len];exact hl) h nd ap
 have e:σ.set i (some v)=σ:=by
  apply List.ext_getElem?;intro j
  by_cases q:j=i
  .subst q;rw[List.getElem?_set_self hl,hi]
  .rw[List.getElem?_set_ne (Ne.symm q)]
 rw[e] at this;exact this
theorem Sl.setZ {i:Nat} (s:Sl mg K H W σ ρ f):Sl mg K H W σ (ρ.set i .z) (fset f i []):=by
 refine ⟨fun j u e=>?_,fun j hj=>?_,by rw[List.length_set];exact s.len,s.fam.set List.nodup_nil fun x hx=>nomatch hx⟩
 .by_cases q:j=i
  .subst q
   by_cases hl:j < ρ.length
   .rw[List.getElem?_set_self hl] at e;cases e;exact .inl ⟨rfl,zbt⟩
   .rw[List.getElem?_eq_none (by rw[List.length_set];omega)] at e;cases e
  .rw[List.getElem?_set_ne (Ne.symm q)] at e;rw[zbU q];exact s.sl j u e
 .rw[List.length_set] at hj
  by_cases q:j=i
  .subst q;exact zbt
  .rw[zbU q];exact s.no j hj
theorem Sl.vw {r:Rv} {v:V} {B:List Addr} {o:O} (s:Sl mg K H W σ ρ f) (h:RvOk mg K H W σ v r B) (e:vw ρ r=some o) (nz:o≠.z):∃C,Ow mg K H W v o C/\∀x∈C,Inn f x\/x∈B:=by
 cases r with
 | own u=>cases e;exact ⟨B,h.1,fun x hx=>.inr hx⟩
 | «at» i p=>
  obtain ⟨_,u,h1,h2⟩:=h;rw[L2.vw] at e
  cases q:ρ[i]? with
  | none=>rw[q] at e;cases e
  | some w=>
   rw[q] at e;rcases s.sl i w q with ⟨rfl,_⟩ | ⟨v',g1,g2⟩
   .cases p with
    | nil=>cases e;exact absurd rfl nz
    | cons k p=>cases e
   .rw[h1] at g1;cases g1;obtain ⟨u',C,k1,k2,k3⟩:=g2.sub e
    cases k1.inj h2
    exact ⟨C,k2,fun x hx=>.inl ⟨i,k3.subset hx⟩⟩
end
end L2
namespace L2
open PySem PySem.Spec PyProof.Rows
section
variable {mg:Str->Option Value} {K:PySem.W.Frag} {A A':Addr->Prop} {H H':Hp} {W W':Addr->Prop} {σ σ':St} {ρ ρ':Rho} {f g:Fp}
theorem VAt.on {p:List Nat}:∀{u v:V} {o n:O} {As:List Addr},Ow mg K H W u o As->VAt H p u v->sub p o=some n->(∀x∈As,H' x=H x)->DMv H W H' W'->VAt H' p u v:=by
 induction p with
 | nil=>intro u v o n As _ h _ _ _;exact h
 | cons k p ih=>
  intro u v o n As ow hv es hk m;obtain ⟨a,vs,w,e,h,q,r⟩:=hv
  cases ow with
  | @l b us os Bs h' tt=>
   cases e;have hv:vs=us:=by rcases h with h | h<;>rw[h] at h'<;>cases h'<;>rfl
   subst hv;rw[L2.sub] at es
   cases z:os[k]? with
   | none=>rw[z] at es;cases es
   | some o=>
    rw[z] at es;obtain ⟨w',A1,g1,g2,g3⟩:=tt.get z;rw[q] at g1;cases g1;exact ⟨_,vs,w,rfl,.inl ((hk _ List.mem_cons_self).trans h'),q,ih g2 r es (fun x hx=>hk x (List.mem_cons_of_mem _ (g3.subset hx))) m⟩
  | @t b us os Bs nw h' tt=>
   cases e;have hv:vs=us:=by rcases h with h | h<;>rw[h] at h'<;>cases h'<;>rfl
   subst hv;rw[L2.sub] at es
   cases z:os[k]? with
   | none=>rw[z] at es;cases es
   | some o=>
    rw[z] at es;obtain ⟨w',A1,g1,g2,g3⟩:=tt.get z;rw[q] at g1;cases g1;exact ⟨_,vs,w,rfl,.inr (m _ _ h' nw).1,q,ih g2 r es (fun x hx=>hk x (g3.subset hx)) m⟩
  | _=>cases es
theorem RvOk.on {r:Rv} {v:V} {B:List Addr} {q:Bool} (s:Sl mg K H W σ ρ f) (h:RvOk mg K H W σ v r B) (hB:∀x∈B,W x/\¬Inn f x) (m:Mv (Inn f) H W A' H' W') (hq:q=true->∀x,Inn f x->H' x=H x) (hp:pok ρ q r=true) :
  RvOk mg K H' W' σ v r B:=by
 cases r with
 | own o=>exact ⟨h.1.on m.d fun x hx=>(m.hand (hB x hx).1 (hB x hx).2).2,h.2⟩
 | «at» i p=>
  obtain ⟨e,u,h1,h2⟩:=h;refine ⟨e,u,h1, ?_⟩
  cases p with
  | nil=>exact h2
  | cons k p=>
   rw[pok,Bool.and_eq_true,vw] at hp
   cases z:ρ[i]? with
   | none=>rw[z] at hp;cases hp.2
   | some o=>
    rw[z] at hp;dsimp only at hp;rcases s.sl i o z with ⟨rfl,_⟩ | ⟨u',g1,g2⟩
    .cases hp.2
    .rw[h1] at g1;cases g1
     cases y:L2.sub (k::p) o with
     | none=>rw[y] at hp;cases hp.2
     | some n=>exact VAt.on g2 h2 y (fun x hx=>hq hp.1 x ⟨i,hx⟩) m.d
theorem zd0 {r:Rv} {o:O} (h:vn ρ r=some o):vw ρ r=some o/\o≠.z:=by
 unfold vn at h;split at h
 .cases h
 .rename_i h2;exact ⟨h,fun z=>h2 (by rw[h,z])⟩
end
section
variable (mg:Str->Option Value) (K:PySem.W.Frag) (E:XK)
structure Ok (H:Hp) (W:Addr->Prop) (σ:St) (ρ:Rho) (f:Fp):Prop where
 s:Sl mg K H W σ ρ f
 sub:∀x,Inn f x->W x
 dom:∀x,W x->H x≠none
def XW (c:Str) (H:Hp):Prop:=∃C,mg c=some (.ref C)/\XCls K C/\E (.ref C) none H
def kR (σ:St) (H:Hp) (W:Addr->Prop) (f:Fp) (Q:VK):Re Rv->Prop
 | .bad=>False
 | .ok r ρ' q=>∀v H' W' f' B,Sl mg K H' W' σ ρ' f'->RvOk mg K H' W' σ v r B->(∀x∈B,¬Inn f' x)->Mv (Inn f) H W (fun x=>Inn f' x\/x∈B) H' W'->(q=true->∀x,Inn f x->H' x=H x)->Q v H'
 | .ex c ρ'=>∀H' W' f',Sl mg K H' W' σ ρ' f'->Mv (Inn f) H W (Inn f') H' W'->XW mg K E c H'
def tR (G:EF):TE:=fun σ H Q=>∃W ρ f,Ok mg K H W σ ρ f/\kR mg K E σ H W f Q (G ρ)
def kG {α:Type} (σ:St) (H:Hp) (W:Addr->Prop) (f:Fp) (Q:α->Hp->Prop):Re α->Prop
 | .bad=>False
 | .ok b ρ' q=>∀H' W' f',Sl mg K H' W' σ ρ' f'->Mv (Inn f) H W (Inn f') H' W'->(q=true->∀x,Inn f x->H' x=H x)->Q b H'
 | .ex c ρ'=>∀H' W' f',Sl mg K H' W' σ ρ' f'->Mv (Inn f) H W (Inn f') H' W'->XW mg K E c H'
def tG {α:Type} (G:Rho->Re α):St->Hp->(α->Hp->Prop)->Prop:=fun σ H Q=>∃W ρ f,Ok mg K H W σ ρ f/\kG mg K E σ H W f Q (G ρ)
abbrev tT (G:TF):TT:=tG mg K E G
structure Rvs (H:Hp) (W:Addr->Prop) (σ:St) (vs:List V) (rs:List Rv) (g:Fp):Prop where
 rv:∀(k:Nat) (r:Rv),rs[k]? = some r->∃v,vs[k]? = some v/\RvOk mg K H W σ v r (g k)
 no:∀k,rs.length<=k->g k=[]
 len:vs.length=rs.length
 fam:Fam g
def kRs (σ:St) (H:Hp) (W:Addr->Prop) (f:Fp) (Q:List V->Hp->Prop):Re (List Rv)->Prop
 | .bad=>False
 | .ok rs ρ' q=>∀vs H' W' f' g,Sl mg K H' W' σ ρ' f'->Rvs mg K H' W' σ vs rs g->(∀x,Inn g x->¬Inn f' x)->Mv (Inn f) H W (fun x=>Inn f' x\/Inn g x) H' W'->(q=true->∀x,Inn f x->H' x=H x)->Q vs H'
 | .ex c ρ'=>∀H' W' f',Sl mg K H' W' σ ρ' f'->Mv (Inn f) H W (Inn f') H' W'->XW mg K E c H'
def tRs (G:AF):TA:=fun σ H Q=>∃W ρ f,Ok mg K H W σ ρ f/\kRs mg K E σ H W f Q (G ρ)
end
abbrev VR (X:Cx) (E:XK) (e:Expr) (G:EF):Prop:=PE X e (tR X.mg X.K E G)
abbrev VT (X:Cx) (E:XK) (e:Expr) (G:TF):Prop:=PT X e (tT X.mg X.K E G)
abbrev VA (X:Cx) (E:XK) (es:List Expr) (G:AF):Prop:=PA X es (tRs X.mg X.K E G)
theorem PE.imp {X:Cx} {e:Expr} {t t':TE} (h:PE X e t) (i:∀σ H Q,t' σ H Q->t σ H Q):PE X e t':=fun pins s σ H Q I q=>h pins s σ H Q I (i σ H Q q)
theorem PT.imp {X:Cx} {e:Expr} {t t':TT} (h:PT X e t) (i:∀σ H Q,t' σ H Q->t σ H Q):PT X e t':=fun pins s σ H Q I q=>h pins s σ H Q I (i σ H Q q)
theorem PA.imp {X:Cx} {e:List Expr} {t t':TA} (h:PA X e t) (i:∀σ H Q,t' σ H Q->t σ H Q):PA X e t':=fun pos pins s σ H Q I q=>h pos pins s σ H Q I (i σ H Q q)
def zab (i:Nat):EF:=fun ρ=>match ρ[i]? with
 | some .z=>.bad
 | some _=>.ok (.at i []) ρ true
 | none=>.bad
def eC (x:PyData):EF:=fun ρ=>.ok (.own (.d x)) ρ true
section
variable {X:Cx} {E:XK}
theorem Ok.refl {mg:Str->Option Value} {K:PySem.W.Frag} {H:Hp} {W:Addr->Prop} {σ:St} {ρ:Rho} {f:Fp} (o:Ok mg K H W σ ρ f):Mv (Inn f) H W (fun x=>Inn f x\/x∈([]:List Addr)) H W:=
 (Mv.refl o.sub o.dom).narrow fun x h=>h.resolve_right fun z=>nomatch z
theorem zaa {i:Nat} {x:Str} {pos:Pos} (h:PE X (.Name x pos) (tVar i)):VR X E (.Name x pos) (zab i):=h.imp fun σ H Q hx__=>by
 obtain ⟨W,ρ,f,ok,q⟩:=hx__;unfold zab at q
 cases e:ρ[i]? with
 | none=>rw[e] at q;exact False.elim q
 | some o=>
  rw[e] at q;rcases ok.s.sl i o e with ⟨rfl,_⟩ | ⟨v,h1,h2⟩
  .exact False.elim q
  .refine ⟨v,h1, ?_⟩
   have:=fun nz:o≠.z=>(show ∀v H' W' f' B,Sl X.mg X.K H' W' σ ρ f'->RvOk X.mg X.K H' W' σ v (.at i []) B->(∀x∈B,¬Inn f' x)->Mv (Inn f) H W (fun x=>Inn f' x\/x∈B) H' W'->(true=true->∀x,Inn f x->H' x=H x)->Q v H' from by cases o<;>first | exact q | exact absurd rfl nz) v H W f [] ok.s ⟨rfl,v,h1,rfl⟩ (fun x z=>nomatch z) ok.refl fun _ _ _=>rfl
   by_cases nz:o=.z
   .subst nz;exact False.elim q
   .exact this nz
theorem zaw {e:Expr} {c:V} {x:PyData} (h:PE X e (tC c)) (d:∀H W,Dn H W c x):VR X E e (eC x):=h.imp fun σ H Q ⟨W,ρ,f,ok,q⟩=>
 q c H W f [] ok.s ⟨.d (d H W),List.nodup_nil⟩ (fun x z=>nomatch z) ok.refl fun _ _ _=>rfl
end
def e2 (A B:EF) (F:O->O->Option O):EF:=fun ρ=>(A ρ).bind fun ra ρ1 q1=>(B ρ1).bind fun rb ρ2 q2=>
 if pok ρ1 q2 ra then match vn ρ2 ra,vn ρ2 rb with
  | some x,some y=>match F x y with
   | some z=>.ok (.own z) ρ2 (q1&&q2)
   | none=>.bad
  | _,_=>.bad
 else .bad
structure Gr (H:Hp) (W:Addr->Prop) (B:List Addr) (H':Hp) (W':Addr->Prop):Prop where
 same:Same H H'
 fresh:∀x∈B,H x=none
 nd:B.Nodup
 w:∀x,W' x↔W x\/x∈B
 dom:∀x∈B,H' x≠none
theorem Gr.refl {H:Hp} {W:Addr->Prop}:Gr H W [] H W:=⟨Same.refl _,fun _ z=>(nomatch z),List.nodup_nil,fun x=>⟨.inl,fun h=>h.resolve_right fun z=>nomatch z⟩,fun _ z=>nomatch z⟩
theorem Gr.new {H:Hp} {W:Addr->Prop} {p:Addr} {o:HO} (h:H p=none):Gr H W [] (upd H p o) W:=⟨Same.new h,fun _ z=>(nomatch z),List.nodup_nil,fun x=>⟨.inl,fun h=>h.resolve_right fun z=>nomatch z⟩,fun _ z=>nomatch z⟩
theorem Gr.newO {H:Hp} {W:Addr->Prop} {p:Addr} {o:HO} (h:H p=none):Gr H W [p] (upd H p o) (fun x=>W x\/x∈[p]):=
 ⟨Same.new h,fun x z=>by rw[List.mem_singleton.mp z];exact h,List.nodup_cons.mpr ⟨fun z=>(nomatch z),List.nodup_nil⟩,fun _=>Iff.rfl,fun x z=>by rw[List.mem_singleton.mp z,zbG];exact fun z=>nomatch z⟩
theorem Gr.mv {A:Addr->Prop} {H H':Hp} {W W':Addr->Prop} {B:List Addr} (g:Gr H W B H' W') (s:∀x,A x->W x) (d:∀x,W x->H x≠none):Mv A H W (fun x=>A x\/x∈B) H' W':=
 ⟨fun b o e _=>g.same b o e,fun x h=>((g.w x).mp h).imp id (g.fresh x),fun x h=>.inr ((g.w x).mpr (.inl h)),fun x h=>h.imp id (g.fresh x),s,d,fun x h=>(g.w x).mpr (h.imp (s x) id),fun x h=>by
  rcases (g.w x).mp h with h | h
  .cases e:H x with
   | none=>exact absurd e (d x h)
   | some o=>rw[g.same x o e];exact fun z=>nomatch z
  .exact g.dom x h⟩
theorem Gr.kept {H H':Hp} {W W':Addr->Prop} {B:List Addr} (g:Gr H W B H' W') (d:∀x,W x->H x≠none) {x:Addr} (h:W x):H' x=H x:=by
 cases e:H x with
 | none=>exact absurd e (d x h)
 | some o=>exact g.same x o e
section
variable (mg:Str->Option Value) (K:PySem.W.Frag)
def rV2 (F:O->O->Option O):R2:=fun x y H Q=>∃W ox oy As Bs z,Ow mg K H W x ox As/\Ow mg K H W y oy Bs/\(∀x,W x->H x≠none)/\F ox oy=some z/\
 ∀v H' W' B,Gr H W B H' W'->Ow mg K H' W' v z B->Q v H'
def rV1 (F:O->Option O):V->Hp->VK->Prop:=fun x H Q=>∃W ox As z,Ow mg K H W x ox As/\(∀x,W x->H x≠none)/\F ox=some z/\
 ∀v H' W' B,Gr H W B H' W'->Ow mg K H' W' v z B->Q v H'
def rVs (F:List O->Option O):List V->Hp->VK->Prop:=fun xs H Q=>∃W os z,xs.length=os.length/\(∀(k:Nat) (o:O),os[k]? = some o->∃v As,xs[k]? = some v/\Ow mg K H W v o As)/\(∀x,W x->H x≠none)/\F os=some z/\
 ∀v H' W' B,Gr H W B H' W'->Ow mg K H' W' v z B->Q v H'
end
section
variable {mg:Str->Option Value} {K:PySem.W.Frag} {E:XK} {σ:St} {H:Hp}
theorem two {A B:EF} {R:V->V->Hp->Prop} {W:Addr->Prop} {ρ:Rho} {f:Fp} (ok:Ok mg K H W σ ρ f)
  (h:match A ρ with
   | .bad=>False
   | .ex c ρ'=>∀H' W' f',Sl mg K H' W' σ ρ' f'->Mv (Inn f) H W (Inn f') H' W'->XW mg K E c H'
   | .ok ra ρ1 q1=>match B ρ1 with
    | .bad=>False
    | .ex c ρ'=>∀H' W' f',Sl mg K H' W' σ ρ' f'->Mv (Inn f) H W (Inn f') H' W'->XW mg K E c H'
    | .ok rb ρ2 q2=>pok ρ1 q2 ra=true/\∀v u H' W' f' C D,Sl mg K H' W' σ ρ2 f'->RvOk mg K H' W' σ v ra C->RvOk mg K H' W' σ u rb D->(∀x∈C,¬Inn f' x)->(∀x∈D,¬Inn f' x)->(∀x∈C,x∉D)->
      Mv (Inn f) H W (fun x=>Inn f' x\/x∈C\/x∈D) H' W'->((q1&&q2)=true->∀x,Inn f x->H' x=H x)->R v u H') :
  tR mg K E A σ H fun x H1=>tR mg K E B σ H1 fun y H2=>R x y H2:=by
 refine ⟨W,ρ,f,ok, ?_⟩
 cases a:A ρ with
 | bad=>rw[a] at h;exact h
 | ex c ρ'=>rw[a] at h;exact h
 | ok ra ρ1 q1=>
  rw[a] at h;intro v H1 W1 f1 C s1 r1 n1 m1 k1;have ok1:Ok mg K H1 W1 σ ρ1 f1:=⟨s1,fun x hx=>m1.sub' x (.inl hx),m1.dom'⟩;refine ⟨W1,ρ1,f1,ok1, ?_⟩;have hC:∀x∈C,W1 x/\¬Inn f1 x:=fun x hx=>⟨m1.sub' x (.inr hx),n1 x hx⟩
  dsimp only at h
  cases b:B ρ1 with
  | bad=>rw[b] at h;exact h
  | ex c ρ'=>
   rw[b] at h;exact fun H2 W2 f2 s2 m2=>h H2 W2 f2 s2 (m1.trans (m2.wide (fun x hx=>.inl hx) m1.sub'))
  | ok rb ρ2 q2=>
   rw[b] at h;obtain ⟨hp,h⟩:=h;intro u H2 W2 f2 D s2 r2 n2 m2 k2;have m2':Mv (fun x=>Inn f1 x\/x∈C) H1 W1 (fun x=>Inn f2 x\/x∈C\/x∈D) H2 W2:=
    ⟨fun b o e n=>m2.same b o e fun z=>n (.inl z),m2.less,fun x w=>(m2.more x w).imp .inl id,fun x w=>by
     rcases w with w | w | w
     .exact (m2.ours x (.inl w)).imp .inl id
     .exact .inl (.inr w)
     .exact (m2.ours x (.inr w)).imp .inl id,m1.sub',m2.dom,fun x w=>by
     rcases w with w | w | w
     .exact m2.sub' x (.inl w)
     .exact (m2.hand (hC x w).1 (hC x w).2).1
     .exact m2.sub' x (.inr w),m2.dom'⟩
   refine h v u H2 W2 f2 C D s2 (r1.on s1 hC m2 k2 hp) r2 (fun x hx z=>m2.apart (hC x hx).1 (hC x hx).2 (.inl z)) n2 (fun x hx z=>m2.apart (hC x hx).1 (hC x hx).2 (.inr z)) (m1.trans m2') fun hq x hx=>?_
   rw[Bool.and_eq_true] at hq;have e1:=k1 hq.1 x hx;have w1:W1 x\/¬W1 x:=Classical.em _
   by_cases i1:Inn f1 x
   .exact (k2 hq.2 x i1).trans e1
   .cases e:H x with
    | none=>exact absurd e (ok.dom x (ok.sub x hx))
    | some o=>
     rw[e] at e1;exact m2.same x o e1 i1
end
section
variable {mg:Str->Option Value} {K:PySem.W.Frag} {A0:Addr->Prop} {H H' H'':Hp} {W W' W'':Addr->Prop} {σ:St} {ρ ρ':Rho} {f f' g:Fp} {B:List Addr}
theorem Gr.d (g:Gr H W B H' W'):DMv H W H' W':=fun a o e n=>⟨g.same a o e,fun z=>((g.w a).mp z).elim n fun q=>by rw[g.fresh a q] at e;cases e⟩
theorem Gr.fin (s:Sl mg K H' W' σ ρ' f') (m:Mv (Inn f) H W A0 H' W') (hA:∀x,Inn f' x->A0 x) (g:Gr H' W' B H'' W'') :
  Sl mg K H'' W'' σ ρ' f'/\(∀x∈B,¬Inn f' x)/\Mv (Inn f) H W (fun x=>Inn f' x\/x∈B) H'' W'':=by
 have hW:∀x,Inn f' x->W' x:=fun x hx=>m.sub' x (hA x hx)
 refine ⟨s.on g.d fun x hx=>g.kept m.dom' (hW x hx),fun x hx z=>m.dom' x (hW x z) (g.fresh x hx),(m.trans (g.mv m.sub' m.dom')).narrow fun x hx=>hx.imp (hA x) id⟩
theorem Gr.quiet (o:Ok mg K H W σ ρ f) (g:Gr H' W' B H'' W'') (k:∀x,Inn f x->H' x=H x):∀x,Inn f x->H'' x=H x:=fun x hx=>by
 cases e:H x with
 | none=>exact absurd e (o.dom x (o.sub x hx))
 | some u=>exact g.same x u ((k x hx).trans e)
end
section
variable {X:Cx} {E:XK}
theorem vr2 {A B:EF} {F:O->O->Option O} {σ:St} {H:Hp} {Q:VK} (h:tR X.mg X.K E (e2 A B F) σ H Q):tOp (rV2 X.mg X.K F) (tR X.mg X.K E A) (tR X.mg X.K E B) σ H Q:=by
 obtain ⟨W,ρ,f,ok,q⟩:=h;refine two ok ?_;unfold e2 at q
 cases a:A ρ with
 | bad=>rw[a] at q;exact q
 | ex c ρ'=>rw[a] at q;exact q
 | ok ra ρ1 q1=>
  rw[a] at q;dsimp only[Re.bind] at q ⊢
  cases b:B ρ1 with
  | bad=>rw[b] at q;exact q
  | ex c ρ'=>rw[b] at q;exact q
  | ok rb ρ2 q2=>
   rw[b] at q;dsimp only at q ⊢
   by_cases hp:pok ρ1 q2 ra=true
   .rw[if_pos hp] at q;refine ⟨hp,fun v u H' W' f' C D s r1 r2 n1 n2 n3 m k=>?_⟩
    cases e1:vn ρ2 ra with
    | none=>rw[e1] at q;exact False.elim q
    | some x=>
     cases e2:vn ρ2 rb with
     | none=>rw[e1,e2] at q;exact False.elim q
     | some y=>
      rw[e1,e2] at q;dsimp only at q
      cases e3:F x y with
      | none=>rw[e3] at q;exact False.elim q
      | some z=>
       rw[e3] at q;obtain ⟨a1,a2⟩:=zd0 e1;obtain ⟨b1,b2⟩:=zd0 e2;obtain ⟨_,o1,_⟩:=s.vw r1 a1 a2;obtain ⟨_,o2,_⟩:=s.vw r2 b1 b2;refine ⟨W',x,y,_,_,z,o1,o2,m.dom',e3,fun w H'' W'' B' g ow=>?_⟩;obtain ⟨g1,g2,g3⟩:=g.fin s m fun x hx=>.inl hx
       exact q w H'' W'' f' B' g1 ⟨ow,g.nd⟩ g2 g3 fun hq=>g.quiet ok (k hq)
   .rw[if_neg hp] at q;exact False.elim q
theorem zaR {op:Operator} {F:O->O->Option O} {a b:Expr} {A B:EF} {pos:Pos} (ho:OpR X (binaryOp op) (rV2 X.mg X.K F)) (ha:VR X E a A) (hb:VR X E b B):VR X E (.BinOp a op b pos) (e2 A B F):=
 (ztq ho ha hb).imp fun _ _ _ h=>vr2 h
theorem zfZ {op:CmpOp} {F:O->O->Option O} {a b:Expr} {A B:EF} {pos:Pos} (ho:OpR X (compareOp op) (rV2 X.mg X.K F)) (ha:VR X E a A) (hb:VR X E b B) (hm:behindInMarks op b=false):VR X E (.Compare a [op] [b] pos) (e2 A B F):=
 (zoD ho ha hb hm).imp fun _ _ _ h=>vr2 h
def tst (G:EF):TF:=fun ρ=>match G ρ with
 | .bad=>.bad
 | .ex c ρ'=>.ex c ρ'
 | .ok r ρ' q=>match vn ρ' r with
  | some (.d (.bool b))=>.ok b ρ' q
  | _=>.bad
theorem zss {G:EF} {σ:St} {H:Hp} {Q:Bool->Hp->Prop} (h:tT X.mg X.K E (tst G) σ H Q):tR X.mg X.K E G σ H fun x H'=>∃k,x=.bl k/\Q k H':=by
 obtain ⟨W,ρ,f,ok,q⟩:=h;refine ⟨W,ρ,f,ok, ?_⟩;unfold tst at q
 cases a:G ρ with
 | bad=>rw[a] at q;exact q
 | ex c ρ'=>rw[a] at q;exact q
 | ok r ρ' q'=>
  rw[a] at q;intro v H' W' f' B s rv n m k;dsimp only at q
  cases e:vn ρ' r with
  | none=>rw[e] at q;exact False.elim q
  | some o=>
   rw[e] at q;obtain ⟨a1,a2⟩:=zd0 e;obtain ⟨_,ow,_⟩:=s.vw rv a1 a2
   cases o with
   | d x=>
    cases x with
    | bool b=>
     cases ow with
     | d hd=>cases hd;exact ⟨b,rfl,q H' W' f' s (m.narrow fun x hx=>.inl hx) k⟩
    | _=>exact False.elim q
   | _=>exact False.elim q
theorem zbh {op:CmpOp} {F:O->O->Option O} {a b:Expr} {A B:EF} {pos:Pos} (ho:OpR X (compareOp op) (rV2 X.mg X.K F)) (ha:VR X E a A) (hb:VR X E b B) (hm:behindInMarks op b=false):VT X E (.Compare a [op] [b] pos) (tst (e2 A B F)):=
 (zo0 ho ha hb hm).imp fun σ H Q h=>by
  have:=zss h
  exact vr2 (E:=E) (X:=X) this
def e1 (A:EF) (F:O->Option O):EF:=fun ρ=>(A ρ).bind fun ra ρ1 q1=>match vn ρ1 ra with
 | some x=>match F x with
  | some z=>.ok (.own z) ρ1 q1
  | none=>.bad
 | none=>.bad
theorem vr1 {A:EF} {F:O->Option O} {σ:St} {H:Hp} {Q:VK} (h:tR X.mg X.K E (e1 A F) σ H Q):tR X.mg X.K E A σ H fun x H1=>rV1 X.mg X.K F x H1 Q:=by
 obtain ⟨W,ρ,f,ok,q⟩:=h;refine ⟨W,ρ,f,ok, ?_⟩;unfold e1 at q
 cases a:A ρ with
 | bad=>rw[a] at q;exact q
 | ex c ρ'=>rw[a] at q;exact q
 | ok ra ρ1 q1=>
  rw[a] at q;intro v H' W' f' C s r n m k;dsimp only[Re.bind] at q
  cases e1:vn ρ1 ra with
  | none=>rw[e1] at q;exact False.elim q
  | some x=>
   rw[e1] at q;dsimp only at q
   cases e3:F x with
   | none=>rw[e3] at q;exact False.elim q
   | some z=>
    rw[e3] at q;obtain ⟨a1,a2⟩:=zd0 e1;obtain ⟨_,o1,_⟩:=s.vw r a1 a2;refine ⟨W',x,_,z,o1,m.dom',e3,fun w H'' W'' B' g ow=>?_⟩;obtain ⟨g1,g2,g3⟩:=g.fin s m fun x hx=>.inl hx
    exact q w H'' W'' f' B' g1 ⟨ow,g.nd⟩ g2 g3 fun hq=>g.quiet ok (k hq)
theorem zti {op:UnaryOp} {F:O->Option O} {a:Expr} {A:EF} {pos:Pos} (ho:UnR X (unaryOp op) (rV1 X.mg X.K F)) (ha:VR X E a A):VR X E (.UnaryOp op a pos) (e1 A F):=
 (zqO ho ha).imp fun _ _ _ h=>vr1 h
def aNil:AF:=fun ρ=>.ok [] ρ true
def zae (A:EF) (R:AF):AF:=fun ρ=>(A ρ).bind fun r ρ1 q1=>(R ρ1).bind fun rs ρ2 q2=>if pok ρ1 q2 r then .ok (r::rs) ρ2 (q1&&q2) else .bad
theorem zah:VA X E [] aNil:=PA.imp zdG fun σ H Q ⟨W,ρ,f,ok,q⟩=>
 q [] H W f (fun _=>[]) ok.s ⟨fun k r e=>by simp at e,fun _ _=>rfl,rfl,⟨fun _=>List.nodup_nil,fun _ _ _ _ z=>nomatch z⟩⟩ (fun x ⟨_,z⟩=>nomatch z)
  ((Mv.refl ok.sub ok.dom).narrow fun x h=>h.resolve_right fun ⟨_,z⟩=>nomatch z) fun _ _ _=>rfl
def ziy (B:List Addr) (g:Fp):Fp:=fun k=>match k with | 0=>B | k+1=>g k
theorem inn_cons {B:List Addr} {g:Fp} {x:Addr}:Inn (ziy B g) x↔x∈B\/Inn g x:=⟨fun hx__=>by
 obtain ⟨k,h⟩:=hx__
 cases k with
 | zero=>exact .inl h
 | succ k=>exact .inr ⟨k,h⟩,fun h=>h.elim (fun h=>⟨0,h⟩) fun ⟨k,h⟩=>⟨k+1,h⟩⟩
theorem Fam.cons {B:List Addr} {g:Fp} (nd:B.Nodup) (h:Fam g) (ap:∀x∈B,¬Inn g x):Fam (ziy B g):=⟨fun k=>by
 cases k with
 | zero=>exact nd
 | succ k=>exact h.nd k,fun i j hij x hx hy=>by
 cases i with
 | zero=>
  cases j with
  | zero=>exact hij rfl
  | succ j=>exact ap x hx ⟨j,hy⟩
 | succ i=>
  cases j with
  | zero=>exact ap x hy ⟨i,hx⟩
  | succ j=>exact h.ap i j (fun z=>hij (by rw[z])) x hx hy⟩
theorem RvOk.nd {mg:Str->Option Value} {K:PySem.W.Frag} {H:Hp} {W:Addr->Prop} {σ:St} {v:V} {r:Rv} {B:List Addr} (h:RvOk mg K H W σ v r B):B.Nodup:=by
 cases r with
 | own o=>exact h.2
 | «at» i p=>rw[h.1];exact List.nodup_nil
theorem zac {e:Expr} {es:List Expr} {A:EF} {R:AF} (ha:VR X E e A) (hr:VA X E es R) (hs:starEach (e::es) X.env=(false,eval e X.env)::starEach es X.env:=by rfl):VA X E (e::es) (zae A R):=
 (zcL ha hr hs).imp fun σ H Q hx__=>by
  obtain ⟨W,ρ,f,ok,q⟩:=hx__;refine ⟨W,ρ,f,ok, ?_⟩;unfold zae at q
  cases a:A ρ with
  | bad=>rw[a] at q;exact q
  | ex c ρ'=>rw[a] at q;exact q
  | ok r ρ1 q1=>
   rw[a] at q;intro v H1 W1 f1 C s1 r1 n1 m1 k1;have ok1:Ok X.mg X.K H1 W1 σ ρ1 f1:=⟨s1,fun x hx=>m1.sub' x (.inl hx),m1.dom'⟩;refine ⟨W1,ρ1,f1,ok1, ?_⟩;have hC:∀x∈C,W1 x/\¬Inn f1 x:=fun x hx=>⟨m1.sub' x (.inr hx),n1 x hx⟩
   dsimp only[Re.bind] at q
   cases b:R ρ1 with
   | bad=>rw[b] at q;exact q
   | ex c ρ'=>
    rw[b] at q;exact fun H2 W2 f2 s2 m2=>q H2 W2 f2 s2 (m1.trans (m2.wide (fun x hx=>.inl hx) m1.sub'))
   | ok rs ρ2 q2=>
    rw[b] at q;dsimp only at q
    by_cases hp:pok ρ1 q2 r=true
    .rw[if_pos hp] at q;intro vs H2 W2 f2 g s2 r2 n2 m2 k2;have ap:∀x∈C,¬Inn g x:=fun x hx z=>m2.apart (hC x hx).1 (hC x hx).2 (.inr z)
     refine q (v::vs) H2 W2 f2 (ziy C g) s2 ⟨fun k r' e=>?_,fun k hk=>?_,by simp[r2.len],.cons r1.nd r2.fam ap⟩ (fun x hx z=>?_) (m1.trans ⟨fun b o e n=>m2.same b o e fun z=>n (.inl z),m2.less,fun x w=>(m2.more x w).imp .inl id,fun x w=>?_,m1.sub',m2.dom,fun x w=>?_,m2.dom'⟩) fun hq x hx=>?_
     .cases k with
      | zero=>cases e;exact ⟨v,rfl,r1.on s1 hC m2 k2 hp⟩
      | succ k=>exact r2.rv k r' e
     .cases k with
      | zero=>simp at hk
      | succ k=>exact r2.no k (by simpa using hk)
     .rcases inn_cons.mp hx with hx | hx
      .exact m2.apart (hC x hx).1 (hC x hx).2 (.inl z)
      .exact n2 x hx z
     .rcases w with w | w
      .exact (m2.ours x (.inl w)).imp .inl id
      .rcases inn_cons.mp w with w | w
       .exact .inl (.inr w)
       .exact (m2.ours x (.inr w)).imp .inl id
     .rcases w with w | w
      .exact m2.sub' x (.inl w)
      .rcases inn_cons.mp w with w | w
       .exact (m2.hand (hC x w).1 (hC x w).2).1
       .exact m2.sub' x (.inr w)
     .rw[Bool.and_eq_true] at hq;have e1:=k1 hq.1 x hx
      by_cases i1:Inn f1 x
      .exact (k2 hq.2 x i1).trans e1
      .cases e:H x with
       | none=>exact absurd e (ok.dom x (ok.sub x hx))
       | some o=>
        rw[e] at e1;exact m2.same x o e1 i1
    .rw[if_neg hp] at q;exact False.elim q
end
section
variable {mg:Str->Option Value} {K:PySem.W.Frag} {H:Hp} {W:Addr->Prop} {σ:St} {ρ ρ':Rho} {f g:Fp}
structure Gv (W:Addr->Prop) (f:Fp) (W':Addr->Prop) (f':Fp):Prop where
 less:∀x,W' x->W x
 more:∀x,W x->Inn f x\/W' x
 ours:∀x,Inn f' x->Inn f x
 sub:∀x,Inn f' x->W' x
theorem Gv.trans {W1 W2:Addr->Prop} {f1 f2:Fp} (a:Gv W f W1 f1) (b:Gv W1 f1 W2 f2):Gv W f W2 f2:=
 ⟨fun x h=>a.less x (b.less x h),fun x h=>(a.more x h).elim .inl fun h=>(b.more x h).imp (a.ours x) id,fun x h=>a.ours x (b.ours x h),b.sub⟩
theorem Gv.refl (s:∀x,Inn f x->W x):Gv W f W f:=⟨fun _ h=>h,fun _ h=>.inr h,fun _ h=>h,s⟩
theorem zgn {r:Rv} {v:V} {B:List Addr} {o:O} (s:Sl mg K H W σ ρ f) (sb:∀x,Inn f x->W x) (h:RvOk mg K H W σ v r B) (e:coe ρ r=some (o,ρ')) :
  ∃W' f',Sl mg K H W' σ ρ' f'/\Gv W f W' f'/\∃B',Ow mg K H W' v o B'/\B'.Nodup/\∀x∈B',x∈B:=by
 cases r with
 | own u=>cases e;exact ⟨W,f,s,.refl sb,B,h.1,h.2,fun _ z=>z⟩
 | «at» i p=>
  obtain ⟨_,u,h1,h2⟩:=h;rw[coe] at e
  cases q:ρ[i]? with
  | none=>rw[q] at e;cases e
  | some w=>
   rw[q] at e;dsimp only at e;rcases s.sl i w q with ⟨rfl,_⟩ | ⟨v',g1,g2⟩
   .cases p with
    | nil=>cases e
    | cons k p=>cases e
   .rw[h1] at g1;cases g1
    cases y:sub p w with
    | none=>rw[y] at e;cases e
    | some n=>
     rw[y] at e;obtain ⟨u',C,k1,k2,k3⟩:=g2.sub y
     cases k1.inj h2
     have fin:∀xi x,fz w=some xi->fz n=some x->o=.d x->ρ'=ρ.set i (.d xi)->∃W' f',Sl mg K H W' σ ρ' f'/\Gv W f W' f'/\∃B',Ow mg K H W' v o B'/\B'.Nodup/\∀x∈B',x∈B:=fun xi x e1 e2 e3 e4=>by
      subst e3 e4;refine ⟨fun a=>W a/\a∉f i,fset f i [], ?_,⟨fun x h=>h.1,fun x h=>(Classical.em (x∈f i)).imp (fun z=>⟨i,z⟩) fun z=>⟨h,z⟩,fun x h=>h.set.elim id fun z=>(nomatch z),fun x h=>?_⟩,[],.d (k2.dn (fun _ z=>z.1) e2 fun x hx z=>z.2 (k3.subset hx)),List.nodup_nil,fun _ z=>nomatch z⟩
      .have s':Sl mg K H (fun a=>W a/\a∉f i) σ ρ f:=s.on (DMv.weak fun _ z=>z.1) fun _ _=>rfl
       exact s'.setS h1 (.d (g2.dn (fun _ z=>z.1) e1 fun x hx z=>z.2 hx)) List.nodup_nil fun x z=>nomatch z
      .obtain ⟨j,hj⟩:=h
       by_cases ej:j=i
       .subst ej;rw[zbt] at hj;cases hj
       .rw[zbU ej] at hj;exact ⟨sb x ⟨j,hj⟩,fun z=>s.fam.ap j i ej x hj z⟩
     cases n with
     | d x=>cases e;cases k2 with | d hd=>exact ⟨W,f,s,.refl sb,[],.d hd,List.nodup_nil,fun _ z=>nomatch z⟩
     | x c=>cases e;cases k2 with | x n1 n2 n3 n4=>exact ⟨W,f,s,.refl sb,[],.x n1 n2 n3 n4,List.nodup_nil,fun _ z=>nomatch z⟩
     | q ob=>cases e;cases k2 with | q n1=>exact ⟨W,f,s,.refl sb,[],.q n1,List.nodup_nil,fun _ z=>nomatch z⟩
     | g ob=>cases e;cases k2 with | g n1 n2=>exact ⟨W,f,s,.refl sb,[],.g n1 n2,List.nodup_nil,fun _ z=>nomatch z⟩
     | z=>
      dsimp only at e;rw[show fz .z=none from rfl] at e
      cases a1:fz w<;>rw[a1] at e<;>cases e
     | l xs=>
      dsimp only at e
      cases a1:fz w with
      | none=>rw[a1] at e;cases e
      | some xi=>
       cases a2:fz (.l xs) with
       | none=>rw[a1,a2] at e;cases e
       | some x=>rw[a1,a2] at e;cases e;exact fin xi x a1 a2 rfl rfl
     | t xs=>
      dsimp only at e
      cases a1:fz w with
      | none=>rw[a1] at e;cases e
      | some xi=>
       cases a2:fz (.t xs) with
       | none=>rw[a1,a2] at e;cases e
       | some x=>rw[a1,a2] at e;cases e;exact fin xi x a1 a2 rfl rfl
theorem zit {r:Rv} {v:V} {B:List Addr} {o:O} (s:Sl mg K H W σ ρ f) (sb:∀x,Inn f x->W x) (h:RvOk mg K H W σ v r B) (hB:∀x∈B,W x/\¬Inn f x) (e:mov ρ r=some (o,ρ')) :
  ∃W' f',Sl mg K H W' σ ρ' f'/\Gv W f W' f'/\∃B',Ow mg K H W' v o B'/\B'.Nodup/\∀x∈B',(x∈B\/Inn f x)/\W' x/\¬Inn f' x:=by
 have viaCoe:coe ρ r=some (o,ρ')->∃W' f',Sl mg K H W' σ ρ' f'/\Gv W f W' f'/\∃B',Ow mg K H W' v o B'/\B'.Nodup/\∀x∈B',(x∈B\/Inn f x)/\W' x/\¬Inn f' x:=fun e=>by
  obtain ⟨W',f',s',g,B',h1,h2,h3⟩:=zgn s sb h e;exact ⟨W',f',s',g,B',h1,h2,fun x hx=>⟨.inl (h3 x hx),(g.more x (hB x (h3 x hx)).1).resolve_left (hB x (h3 x hx)).2,fun z=>(hB x (h3 x hx)).2 (g.ours x z)⟩⟩
 cases r with
 | own u=>exact viaCoe e
 | «at» i p=>
  cases p with
  | cons k p=>exact viaCoe e
  | nil=>
   obtain ⟨_,u,h1,h2⟩:=h
   cases (show u=v from h2)
   rw[mov] at e
   cases q:ρ[i]? with
   | none=>rw[q] at e;cases e
   | some w=>
    rw[q] at e;rcases s.sl i w q with ⟨rfl,_⟩ | ⟨v',g1,g2⟩
    .cases e
    .rw[h1] at g1;cases g1;have e':o=w/\ρ'=ρ.set i .z:=by
      cases w<;>first | (cases e;exact ⟨rfl,rfl⟩) | cases e
     obtain ⟨rfl,rfl⟩:=e';exact ⟨W,fset f i [],s.setZ,⟨fun _ h=>h,fun _ h=>.inr h,fun x h=>h.set.elim id fun z=>(nomatch z),fun x h=>sb x (h.set.elim id fun z=>nomatch z)⟩,f i,g2,s.fam.nd i,fun x hx=>⟨.inr ⟨i,hx⟩,sb x ⟨i,hx⟩,fun hx__=>by
      obtain ⟨j,hj⟩:=hx__
      by_cases ej:j=i
      .subst ej;rw[zbt] at hj;cases hj
      .rw[zbU ej] at hj;exact s.fam.ap j i ej x hj hx⟩⟩
def coes (ρ:Rho):List Rv->Option (List O×Rho)
 | []=>some ([],ρ)
 | r::rs=>match coe ρ r with
  | some (o,ρ1)=>match coes ρ1 rs with
   | some (os,ρ2)=>some (o::os,ρ2)
   | none=>none
  | none=>none
def movs (ρ:Rho):List Rv->Option (List O×Rho)
 | []=>some ([],ρ)
 | r::rs=>match mov ρ r with
  | some (o,ρ1)=>match movs ρ1 rs with
   | some (os,ρ2)=>some (o::os,ρ2)
   | none=>none
  | none=>none
theorem Rvs.tail {vs:List V} {r:Rv} {rs:List Rv} (h:Rvs mg K H W σ vs (r::rs) g):∃v us,vs=v::us/\RvOk mg K H W σ v r (g 0)/\Rvs mg K H W σ us rs (fun k=>g (k+1)):=by
 cases vs with
 | nil=>have:=h.len;simp at this
 | cons v us=>
  obtain ⟨v',e,q⟩:=h.rv 0 r rfl;cases e;exact ⟨v,us,rfl,q,⟨fun k r' e=>h.rv (k+1) r' e,fun k hk=>h.no (k+1) (by simpa using hk),by simpa using h.len,⟨fun i=>h.fam.nd _,fun i j hij=>h.fam.ap _ _ (by omega)⟩⟩⟩
theorem RvOk.weak {W':Addr->Prop} {r:Rv} {v:V} {B:List Addr} (h:RvOk mg K H W σ v r B) (w:∀x,W' x->W x):RvOk mg K H W' σ v r B:=by
 cases r with
 | own o=>exact ⟨h.1.on (DMv.weak w) fun _ _=>rfl,h.2⟩
 | «at» i p=>exact h
theorem Rvs.weak {W':Addr->Prop} {vs:List V} {rs:List Rv} (h:Rvs mg K H W σ vs rs g) (w:∀x,W' x->W x):Rvs mg K H W' σ vs rs g:=
 ⟨fun k r e=>let ⟨v,h1,h2⟩:=h.rv k r e;⟨v,h1,h2.weak w⟩,h.no,h.len,h.fam⟩
theorem zkS:∀{rs:List Rv} {vs:List V} {W:Addr->Prop} {ρ ρ':Rho} {f g:Fp} {os:List O},Sl mg K H W σ ρ f->(∀x,Inn f x->W x)->Rvs mg K H W σ vs rs g->(∀x,Inn g x->W x/\¬Inn f x)->coes ρ rs=some (os,ρ')->
  ∃W' f',Sl mg K H W' σ ρ' f'/\Gv W f W' f'/\∃As,Ows mg K H W' vs os As/\As.Nodup/\∀x∈As,Inn g x
 | [],vs,W,ρ,ρ',f,g,os,s,sb,h,hg,e=>by
  cases e
  cases vs with
  | nil=>exact ⟨W,f,s,.refl sb,[],.nil,List.nodup_nil,fun _ z=>nomatch z⟩
  | cons v vs=>have:=h.len;simp at this
 | r::rs,vs,W,ρ,ρ',f,g,os,s,sb,h,hg,e=>by
  obtain ⟨v,us,rfl,h0,ht⟩:=h.tail;rw[coes] at e
  cases a:coe ρ r with
  | none=>rw[a] at e;cases e
  | some z=>
   obtain ⟨o,ρ1⟩:=z;rw[a] at e;dsimp only at e
   cases b:coes ρ1 rs with
   | none=>rw[b] at e;cases e
   | some z=>
    obtain ⟨os',ρ2⟩:=z;rw[b] at e;cases e;obtain ⟨W1,f1,s1,g1,B,o1,nd1,in1⟩:=zgn s sb h0 a;have hg1:∀x,Inn g x->W1 x/\¬Inn f1 x:=fun x hx=>⟨(g1.more x (hg x hx).1).resolve_left (hg x hx).2,fun z=>(hg x hx).2 (g1.ours x z)⟩
    obtain ⟨W2,f2,s2,g2,As,o2,nd2,in2⟩:=zkS s1 g1.sub (ht.weak g1.less) (fun x ⟨k,hk⟩=>hg1 x ⟨k+1,hk⟩) b;refine ⟨W2,f2,s2,g1.trans g2,B++As,.cons (o1.on (DMv.weak g2.less) fun _ _=>rfl) o2,List.nodup_append.mpr ⟨nd1,nd2,fun x hx y hy z=>?_⟩,fun x hx=>?_⟩
    .subst z;obtain ⟨k,hk⟩:=in2 x hy;exact h.fam.ap 0 (k+1) (by omega) x (in1 x hx) hk
    .rcases List.mem_append.mp hx with hx | hx
     .exact ⟨0,in1 x hx⟩
     .obtain ⟨k,hk⟩:=in2 x hx;exact ⟨k+1,hk⟩
theorem zlS:∀{rs:List Rv} {vs:List V} {W:Addr->Prop} {ρ ρ':Rho} {f g:Fp} {os:List O},Sl mg K H W σ ρ f->(∀x,Inn f x->W x)->Rvs mg K H W σ vs rs g->(∀x,Inn g x->W x/\¬Inn f x)->movs ρ rs=some (os,ρ')->
  ∃W' f',Sl mg K H W' σ ρ' f'/\Gv W f W' f'/\∃As,Ows mg K H W' vs os As/\As.Nodup/\∀x∈As,(Inn g x\/Inn f x)/\W' x/\¬Inn f' x
 | [],vs,W,ρ,ρ',f,g,os,s,sb,h,hg,e=>by
  cases e
  cases vs with
  | nil=>exact ⟨W,f,s,.refl sb,[],.nil,List.nodup_nil,fun _ z=>nomatch z⟩
  | cons v vs=>have:=h.len;simp at this
 | r::rs,vs,W,ρ,ρ',f,g,os,s,sb,h,hg,e=>by
  obtain ⟨v,us,rfl,h0,ht⟩:=h.tail;rw[movs] at e
  cases a:mov ρ r with
  | none=>rw[a] at e;cases e
  | some z=>
   obtain ⟨o,ρ1⟩:=z;rw[a] at e;dsimp only at e
   cases b:movs ρ1 rs with
   | none=>rw[b] at e;cases e
   | some z=>
    obtain ⟨os',ρ2⟩:=z;rw[b] at e;cases e;obtain ⟨W1,f1,s1,g1,B,o1,nd1,in1⟩:=zit s sb h0 (fun x hx=>hg x ⟨0,hx⟩) a;have hg1:∀x,Inn g x->W1 x/\¬Inn f1 x:=fun x hx=>⟨(g1.more x (hg x hx).1).resolve_left (hg x hx).2,fun z=>(hg x hx).2 (g1.ours x z)⟩
    obtain ⟨W2,f2,s2,g2,As,o2,nd2,in2⟩:=zlS s1 g1.sub (ht.weak g1.less) (fun x ⟨k,hk⟩=>hg1 x ⟨k+1,hk⟩) b;refine ⟨W2,f2,s2,g1.trans g2,B++As,.cons (o1.on (DMv.weak g2.less) fun _ _=>rfl) o2,List.nodup_append.mpr ⟨nd1,nd2,fun x hx y hy z=>?_⟩,fun x hx=>?_⟩
    .subst z;rcases (in2 x hy).1 with ⟨k,hk⟩ | q
     .rcases (in1 x hx).1 with r | r
      .exact h.fam.ap 0 (k+1) (by omega) x r hk
      .exact (hg x ⟨k+1,hk⟩).2 r
     .exact (in1 x hx).2.2 q
    .rcases List.mem_append.mp hx with hx | hx
     .obtain ⟨q1,q2,q3⟩:=in1 x hx;exact ⟨q1.imp (fun z=>⟨0,z⟩) id,(g2.more x q2).resolve_left q3,fun z=>q3 (g2.ours x z)⟩
     .obtain ⟨q1,q2,q3⟩:=in2 x hx;exact ⟨q1.elim (fun ⟨k,hk⟩=>.inl ⟨k+1,hk⟩) fun z=>.inr (g1.ours x z),q2,q3⟩
end
def mkT (os:List O):O:=match lds os with | some ds=>.d (.tuple ds) | none=>.t os
def zaQ (take:Rho->List Rv->Option (List O×Rho)) (mk:List O->O) (A:AF):EF:=fun ρ=>(A ρ).bind fun rs ρ1 q=>match take ρ1 rs with
 | some (os,ρ2)=>if os.length<=sizeLine then .ok (.own (mk os)) ρ2 q else .bad
 | none=>.bad
def Take (take:Rho->List Rv->Option (List O×Rho)):Prop:=∀{mg:Str->Option Value} {K:PySem.W.Frag} {H:Hp} {σ:St} {rs:List Rv} {vs:List V} {W:Addr->Prop} {ρ ρ':Rho} {f g:Fp} {os:List O},Sl mg K H W σ ρ f->(∀x,Inn f x->W x)->Rvs mg K H W σ vs rs g->(∀x,Inn g x->W x/\¬Inn f x)->take ρ rs=some (os,ρ')->
  ∃W' f',Sl mg K H W' σ ρ' f'/\Gv W f W' f'/\∃As,Ows mg K H W' vs os As/\As.Nodup/\∀x∈As,(Inn g x\/Inn f x)/\W' x/\¬Inn f' x
theorem zcq:Take movs:=@zlS
theorem zaO:Take coes:=fun s sb h hg e=>by
 obtain ⟨W',f',s',g,As,h1,h2,h3⟩:=zkS s sb h hg e;exact ⟨W',f',s',g,As,h1,h2,fun x hx=>⟨.inl (h3 x hx),(g.more x (hg x (h3 x hx)).1).resolve_left (hg x (h3 x hx)).2,fun z=>(hg x (h3 x hx)).2 (g.ours x z)⟩⟩
theorem Gv.mv {A:Addr->Prop} {H:Hp} {W W':Addr->Prop} {f f':Fp} {As:List Addr} (g:Gv W f W' f') (hA:∀x,Inn f x->A x) (s:∀x,A x->W x) (d:∀x,W x->H x≠none) (hAs:∀x∈As,A x/\W' x):Mv A H W (fun x=>Inn f' x\/x∈As) H W':=
 ⟨fun _ _ h _=>h,fun x h=>.inl (g.less x h),fun x h=>(g.more x h).imp (hA x) id,fun x h=>.inl (h.elim (fun z=>hA x (g.ours x z)) fun z=>(hAs x z).1),s,d,fun x h=>h.elim (g.sub x) fun z=>(hAs x z).2,fun x h=>d x (g.less x h)⟩
section
variable {X:Cx} {E:XK}
theorem znX {take:Rho->List Rv->Option (List O×Rho)} (ht:Take take) {A:AF} {σ:St} {H:Hp} {W:Addr->Prop} {ρ:Rho} {f:Fp} {R:List V->Hp->Prop} (ok:Ok X.mg X.K H W σ ρ f)
  (h:match A ρ with
   | .bad=>False
   | .ex c ρ'=>∀H' W' f',Sl X.mg X.K H' W' σ ρ' f'->Mv (Inn f) H W (Inn f') H' W'->XW X.mg X.K E c H'
   | .ok rs ρ1 q=>match take ρ1 rs with
    | none=>False
    | some (os,ρ2)=>∀vs H' W' f' As,Sl X.mg X.K H' W' σ ρ2 f'->Ows X.mg X.K H' W' vs os As->As.Nodup->(∀x∈As,¬Inn f' x)->Mv (Inn f) H W (fun x=>Inn f' x\/x∈As) H' W'->(q=true->∀x,Inn f x->H' x=H x)->R vs H') :
  tRs X.mg X.K E A σ H R:=by
 refine ⟨W,ρ,f,ok, ?_⟩
 cases a:A ρ with
 | bad=>rw[a] at h;exact h
 | ex c ρ'=>rw[a] at h;exact h
 | ok rs ρ1 q=>
  rw[a] at h;intro vs H1 W1 f1 g s1 r1 n1 m1 k1;dsimp only at h
  cases b:take ρ1 rs with
  | none=>rw[b] at h;exact h.elim
  | some z=>
   obtain ⟨os,ρ2⟩:=z;rw[b] at h;obtain ⟨W2,f2,s2,g2,As,o2,nd2,in2⟩:=ht s1 (fun x hx=>m1.sub' x (.inl hx)) r1 (fun x hx=>⟨m1.sub' x (.inr hx),n1 x hx⟩) b;refine h vs H1 W2 f2 As s2 o2 nd2 (fun x hx=>(in2 x hx).2.2) (m1.trans (g2.mv (fun x hx=>.inl hx) m1.sub' m1.dom' fun x hx=>⟨(in2 x hx).1.elim .inr .inl,(in2 x hx).2.1⟩)) k1
theorem zcn {take:Rho->List Rv->Option (List O×Rho)} {es:List Expr} {A:AF} {pos:Pos} (ht:Take take) (ha:VA X E es A):VR X E (.List es pos) (zaQ take .l A):=
 (zqq ha).imp fun σ H Q hx__=>by
  obtain ⟨W,ρ,f,ok,q⟩:=hx__;refine znX ht ok ?_;unfold zaQ at q
  cases a:A ρ with
  | bad=>rw[a] at q;exact q
  | ex c ρ'=>rw[a] at q;exact q
  | ok rs ρ1 k=>
   rw[a] at q;dsimp only[Re.bind] at q ⊢
   cases b:take ρ1 rs with
   | none=>rw[b] at q;exact False.elim q
   | some z=>
    obtain ⟨os,ρ2⟩:=z;rw[b] at q;dsimp only at q ⊢
    by_cases hz:os.length<=sizeLine
    .rw[if_pos hz] at q;intro vs H' W' f' As s o nd ap m kk;refine ⟨by rw[o.length];exact hz,fun p hp=>?_⟩;have g:Gr H' W' [p] (upd H' p (.lst vs)) (fun x=>W' x\/x∈[p]):=Gr.newO hp;have hpA:p∉As:=fun z=>m.dom' p (m.sub' p (.inr z)) hp
     refine q (.ref p) _ _ f' (p::As) (s.on g.d fun x hx=>g.kept m.dom' (m.sub' x (.inl hx))) ⟨.l zbG (o.on g.d fun x hx=>g.kept m.dom' (m.sub' x (.inr hx))),List.nodup_cons.mpr ⟨hpA,nd⟩⟩ (fun x hx z=>?_) ((m.trans (g.mv m.sub' m.dom')).narrow fun x hx=>?_) fun hq=>g.quiet ok (kk hq)
     .rcases List.mem_cons.mp hx with rfl | hx
      .exact m.dom' x (m.sub' x (.inl z)) hp
      .exact ap x hx z
     .rcases hx with hx | hx
      .exact .inl (.inl hx)
      .rcases List.mem_cons.mp hx with rfl | hx
       .exact .inr List.mem_cons_self
       .exact .inl (.inr hx)
    .rw[if_neg hz] at q;exact False.elim q
theorem Ow.mkT {mg:Str->Option Value} {K:PySem.W.Frag} {H:Hp} {W:Addr->Prop} {p:Addr} {vs:List V} {os:List O} {As:List Addr} (n:¬W p) (h:H p=some (.tup vs)) (o:Ows mg K H W vs os As):Ow mg K H W (.ref p) (mkT os) As:=by
 unfold L2.mkT
 cases e:lds os with
 | none=>exact .t n h o
 | some ds=>
  have:=zkP e
  subst this;obtain ⟨h1,rfl⟩:=o.toD;exact .d (.tup n h h1)
theorem zci {take:Rho->List Rv->Option (List O×Rho)} {es:List Expr} {A:AF} {k:Nat} {pos:Pos} (ht:Take take) (ha:VA X E es A):VR X E (.Tuple es k pos) (zaQ take mkT A):=
 (zqM ha).imp fun σ H Q hx__=>by
  obtain ⟨W,ρ,f,ok,q⟩:=hx__;refine znX ht ok ?_;unfold zaQ at q
  cases a:A ρ with
  | bad=>rw[a] at q;exact q
  | ex c ρ'=>rw[a] at q;exact q
  | ok rs ρ1 k=>
   rw[a] at q;dsimp only[Re.bind] at q ⊢
   cases b:take ρ1 rs with
   | none=>rw[b] at q;exact False.elim q
   | some z=>
    obtain ⟨os,ρ2⟩:=z;rw[b] at q;dsimp only at q ⊢
    by_cases hz:os.length<=sizeLine
    .rw[if_pos hz] at q;intro vs H' W' f' As s o nd ap m kk;refine ⟨by rw[o.length];exact hz,fun p hp=>?_⟩;have g:Gr H' W' [] (upd H' p (.tup vs)) W':=Gr.new hp;exact q (.ref p) _ _ f' As (s.on g.d fun x hx=>g.kept m.dom' (m.sub' x (.inl hx))) ⟨.mkT (fun z=>m.dom' p z hp) zbG (o.on g.d fun x hx=>g.kept m.dom' (m.sub' x (.inr hx))),nd⟩ ap ((m.trans (g.mv m.sub' m.dom')).narrow fun x hx=>.inl hx) fun hq=>g.quiet ok (kk hq)
    .rw[if_neg hz] at q;exact False.elim q
end
section
variable {mg:Str->Option Value} {K:PySem.W.Frag} {H:Hp} {W:Addr->Prop} {v:V} {As:List Addr}
theorem Ow.int {i:Int} (h:Ow mg K H W v (.d (.int i)) As):v=.int i:=by cases h with | d h=>cases h;rfl
theorem Ow.bl {b:Bool} (h:Ow mg K H W v (.d (.bool b)) As):v=.bl b:=by cases h with | d h=>cases h;rfl
theorem Ow.str {s:Str} (h:Ow mg K H W v (.d (.str s)) As):v=.str s:=by cases h with | d h=>cases h;rfl
theorem Ow.non (h:Ow mg K H W v (.d .none) As):v=.non:=by cases h with | d h=>cases h;rfl
end
theorem OpR.imp {X:Cx} {f:Value->Value->Sem Value} {r r':R2} (h:OpR X f r) (i:∀x y H Q,r' x y H Q->r x y H Q):OpR X f r':=fun pins s σ H x y v u Q I rx ry q=>h pins s σ H x y v u Q I rx ry (i x y H Q q)
theorem UnR.imp {X:Cx} {f:Value->Sem Value} {r r':V->Hp->VK->Prop} (h:UnR X f r) (i:∀x H Q,r' x H Q->r x H Q):UnR X f r':=fun pins s σ H x v Q I rx q=>h pins s σ H x v Q I rx (i x H Q q)
theorem CallR.imp {X:Cx} {f:Value} {r r':List V->Hp->VK->Prop} (h:CallR X f r) (i:∀x H Q,r' x H Q->r x H Q):CallR X f r':=fun pins s σ H x v Q I rx q=>h pins s σ H x v Q I rx (i x H Q q)
def fI2 (g:Int->Int->Option PyData):O->O->Option O
 | .d (.int a),.d (.int b)=>(g a b).map O.d
 | _,_=>none
theorem zno {g:Int->Int->Option PyData} {x y z:O} (h:fI2 g x y=some z):∃a b c,x=.d (.int a)/\y=.d (.int b)/\g a b=some c/\z=.d c:=by
 unfold fI2 at h;split at h
 .rename_i a b
  cases e:g a b with
  | none=>rw[e] at h;cases h
  | some c=>rw[e] at h;cases h;exact ⟨a,b,c,rfl,rfl,e,rfl⟩
 .cases h
instance (i j:Int):Decidable (CMul i j):=decidable_of_iff ((-18446744073709551616 < i/\i < 18446744073709551616)\/(-18446744073709551616 < j/\j < 18446744073709551616)) (by unfold CMul;omega)
instance (i j:Int):Decidable (zkr i j):=decidable_of_iff (0 < j/\j < 1606938044258990275541962092341162602522202993782792835301376) (by unfold zkr;omega)
instance (i j:Int):Decidable (CPow i j):=decidable_of_iff (0<=j/\j<=1000000/\i.natAbs < 18446744073709551616) (by unfold CPow;omega)
def gC (C:Int->Int->Prop) [∀i j,Decidable (C i j)] (f:Int->Int->Int) (a b:Int):Option PyData:=if C a b then some (.int (f a b)) else none
def gB (f:Int->Int->Bool) (a b:Int):Option PyData:=some (.bool (f a b))
def fSub:O->O->Option O:=fI2 fun a b=>some (.int (a - b))
def fMod:O->O->Option O:=fI2 (gC (fun _ j=>0 < j) fun a b=>a % b)
def fDiv:O->O->Option O:=fI2 (gC zkr fun a b=>a / b)
def fPow:O->O->Option O:=fI2 (gC CPow fun a b=>a ^ b.toNat)
def fLt:O->O->Option O:=fI2 (gB fun a b=>decide (a < b))
def fLe:O->O->Option O:=fI2 (gB fun a b=>decide (a<=b))
def fGt:O->O->Option O:=fI2 (gB fun a b=>decide (b < a))
def fGe:O->O->Option O:=fI2 (gB fun a b=>decide (b<=a))
section
variable {X:Cx}
theorem zot {f:Value->Value->Sem Value} {g:Int->Int->V} {d:Int->Int->PyData} (h:OpR X f (rI0 g)) (e:∀a b H W,Dn H W (g a b) (d a b)):OpR X f (rV2 X.mg X.K (fI2 fun a b=>some (d a b))):=h.imp fun x y H Q hx__=>by
 obtain ⟨W,ox,oy,As,Bs,z,o1,o2,dm,hf,q⟩:=hx__;obtain ⟨a,b,c,rfl,rfl,hc,rfl⟩:=zno hf;cases hc;exact ⟨a,b,o1.int,o2.int,q _ H W [] .refl (.d (e a b H W))⟩
theorem zoh {f:Value->Value->Sem Value} {C:Int->Int->Prop} [∀i j,Decidable (C i j)] {g:Int->Int->Int} (h:OpR X f (rI C fun a b=>.int (g a b))):OpR X f (rV2 X.mg X.K (fI2 (gC C g))):=h.imp fun x y H Q hx__=>by
 obtain ⟨W,ox,oy,As,Bs,z,o1,o2,dm,hf,q⟩:=hx__;obtain ⟨a,b,c,rfl,rfl,hc,rfl⟩:=zno hf;unfold gC at hc
 by_cases hC:C a b
 .rw[if_pos hC] at hc;cases hc;exact ⟨a,b,o1.int,o2.int,hC,q _ H W [] .refl (.d (.int _))⟩
 .rw[if_neg hC] at hc;cases hc
theorem zh6:OpR X (binaryOp .Sub) (rV2 X.mg X.K fSub):=zot zqp fun _ _ _ _=>.int _
theorem zhf:OpR X (binaryOp .Mod) (rV2 X.mg X.K fMod):=zoh zqJ
theorem znR:OpR X (binaryOp .FloorDiv) (rV2 X.mg X.K fDiv):=zoh zm6
theorem zjw:OpR X (binaryOp .Pow) (rV2 X.mg X.K fPow):=zoh zrA
theorem zoN:OpR X (compareOp .Lt) (rV2 X.mg X.K fLt):=zot zmP fun _ _ _ _=>.bl _
theorem zlh:OpR X (compareOp .Gt) (rV2 X.mg X.K fGt):=zot ztf fun _ _ _ _=>.bl _
end
def fAdd:O->O->Option O
 | .d (.int a),.d (.int b)=>some (.d (.int (a+b)))
 | x,y=>match els x,els y with
  | some (true,xs),some (true,ys)=>match lds xs,lds ys with
   | some a,some b=>if a.length+b.length<=sizeLine then some (.l ((a++b).map O.d)) else none
   | _,_=>none
  | _,_=>none
theorem Ow.items {mg:Str->Option Value} {K:PySem.W.Frag} {H:Hp} {W:Addr->Prop} {v:V} {o:O} {As:List Addr} {k:Bool} {os:List O} {ds:List PyData} (h:Ow mg K H W v o As) (e:L2.els o=some (k,os)) (l:lds os=some ds) :
  ∃a vs,v=.ref a/\H a=some (if k then .lst vs else .tup vs)/\Dns H W vs ds:=by
 obtain ⟨a,vs,A,h1,h2,h3,_⟩:=h.els e;rw[zkP l] at h3;exact ⟨a,vs,h1,h2,h3.toD.1⟩
theorem Ow.newL {mg:Str->Option Value} {K:PySem.W.Frag} {H:Hp} {W:Addr->Prop} {p:Addr} {vs:List V} {ds:List PyData} (hp:H p=none) (h:Dns H W vs ds):Ow mg K (upd H p (.lst vs)) (fun x=>W x\/x∈[p]) (.ref p) (.l (ds.map O.d)) [p]:=
 .l zbG (.ofD (h.on (Gr.newO hp).d))
section
variable {X:Cx}
theorem zaY:OpR X (binaryOp .Add) (rV2 X.mg X.K fAdd):=(op_add.or zqH).imp fun x y H Q hx__=>by
 obtain ⟨W,ox,oy,As,Bs,z,o1,o2,dm,hf,q⟩:=hx__;unfold fAdd at hf;split at hf
 .cases hf;exact .inl ⟨_,_,o1.int,o2.int,q _ H W [] .refl (.d (.int _))⟩
 .split at hf
  .rename_i xs ys e1 e2;split at hf
   .rename_i a b l1 l2
    by_cases hz:a.length+b.length<=sizeLine
    .rw[if_pos hz] at hf;cases hf;obtain ⟨p1,v1,rfl,h1,d1⟩:=o1.items e1 l1;obtain ⟨p2,v2,rfl,h2,d2⟩:=o2.items e2 l2;exact .inr ⟨p1,p2,v1,v2,rfl,rfl,h1,h2,by rw[d1.length,d2.length];exact hz,fun p hp=>q _ _ _ _ (.newO hp) (.newL hp (d1.app d2))⟩
    .rw[if_neg hz] at hf;cases hf
   .cases hf
  .cases hf
def fMul:O->O->Option O
 | .d (.int a),.d (.int b)=>if CMul a b then some (.d (.int (a * b))) else none
 | x,.d (.int k)=>match els x with
  | some (true,xs)=>match lds xs with
   | some a=>if -9223372036854775808<=k/\k < 9223372036854775808/\a.length * k.toNat<=sizeLine then some (.l ((List.replicate k.toNat a).flatten.map O.d)) else none
   | none=>none
  | _=>none
 | _,_=>none
theorem Dns.rep {P:Addr->Prop} {H:Hp} {xs:List V} {ds:List PyData} (h:Dns H P xs ds):∀k:Nat,Dns H P (List.replicate k xs).flatten (List.replicate k ds).flatten
 | 0=>.nil
 | k+1=>by rw[List.replicate_succ,List.replicate_succ,List.flatten_cons,List.flatten_cons];exact h.app (Dns.rep h k)
theorem zdQ:OpR X (binaryOp .Mult) (rV2 X.mg X.K fMul):=(op_mul.or zrz).imp fun x y H Q hx__=>by
 obtain ⟨W,ox,oy,As,Bs,z,o1,o2,dm,hf,q⟩:=hx__;unfold fMul at hf;split at hf
 .rename_i a b
  by_cases hC:CMul a b
  .rw[if_pos hC] at hf;cases hf;exact .inl ⟨_,_,o1.int,o2.int,hC,q _ H W [] .refl (.d (.int _))⟩
  .rw[if_neg hC] at hf;cases hf
 .split at hf
  .rename_i k _ _ xs e1;split at hf
   .rename_i a l1
    by_cases hz:-9223372036854775808<=k/\k < 9223372036854775808/\a.length * k.toNat<=sizeLine
    .rw[if_pos hz] at hf;cases hf;obtain ⟨p1,v1,rfl,h1,d1⟩:=o1.items e1 l1;exact .inr ⟨p1,k,v1,rfl,o2.int,h1,hz.1,hz.2.1,by rw[d1.length];exact hz.2.2,fun p hp=>q _ _ _ _ (.newO hp) (.newL hp (d1.rep _))⟩
    .rw[if_neg hz] at hf;cases hf
   .cases hf
  .cases hf
 .cases hf
def fEq (neg:Bool) (x y:O):Option O:=match fz x,fz y with
 | some a,some b=>if SeqAt.shaped a&&SeqAt.shaped b then some (.d (.bool (if neg then !PyData.eqv a b else PyData.eqv a b))) else none
 | _,_=>none
theorem zfk (hu:X.A.units+64 < cLine):OpR X (compareOp .Eq) (rV2 X.mg X.K (fEq false)):=(zqo hu).imp fun x y H Q hx__=>by
 obtain ⟨W,ox,oy,As,Bs,z,o1,o2,dm,hf,q⟩:=hx__;unfold fEq at hf;split at hf
 .rename_i a b e1 e2
  by_cases hz:(SeqAt.shaped a&&SeqAt.shaped b)=true
  .rw[if_pos hz] at hf;cases hf;rw[Bool.and_eq_true] at hz;exact eqD (o1.plain e1) (o2.plain e2) hz.1 hz.2 (q _ H W [] .refl (.d (.bl _)))
  .rw[if_neg hz] at hf;cases hf
 .cases hf
theorem zi4 (hu:X.A.units+64 < cLine):OpR X (compareOp .NotEq) (rV2 X.mg X.K (fEq true)):=(zqG hu).imp fun x y H Q hx__=>by
 obtain ⟨W,ox,oy,As,Bs,z,o1,o2,dm,hf,q⟩:=hx__;unfold fEq at hf;split at hf
 .rename_i a b e1 e2
  by_cases hz:(SeqAt.shaped a&&SeqAt.shaped b)=true
  .rw[if_pos hz] at hf;cases hf;rw[Bool.and_eq_true] at hz;exact eqD (o1.plain e1) (o2.plain e2) hz.1 hz.2 (q _ H W [] .refl (.d (.bl _)))
  .rw[if_neg hz] at hf;cases hf
 .cases hf
def isN:O->Bool
 | .d .none=>true
 | _=>false
def isZ:O->Bool
 | .z=>true
 | _=>false
def fIs (neg:Bool) (x y:O):Option O:=if isN y&&!isZ x then some (.d (.bool (if neg then !isN x else isN x))) else none
theorem Ow.nonIff {mg:Str->Option Value} {K:PySem.W.Frag} {H:Hp} {W:Addr->Prop} {v:V} {o:O} {As:List Addr} (h:Ow mg K H W v o As) (nz:isZ o=false):decide (v=.non)=isN o:=by
 cases h with
 | z=>cases nz
 | d h=>cases h<;>first | rfl | (apply decide_eq_false;intro z;cases z)
 | l=>apply decide_eq_false;intro z;cases z
 | t=>apply decide_eq_false;intro z;cases z
 | x=>apply decide_eq_false;intro z;cases z
 | g=>apply decide_eq_false;intro z;cases z
 | q=>apply decide_eq_false;intro z;cases z
theorem znl {neg:Bool} {x y z:O} (h:fIs neg x y=some z):y=.d .none/\isZ x=false/\z=.d (.bool (if neg then !isN x else isN x)):=by
 unfold fIs at h
 by_cases hc:(isN y&&!isZ x)=true
 .rw[if_pos hc] at h;cases h;rw[Bool.and_eq_true] at hc;refine ⟨?_,by simpa using hc.2,rfl⟩
  cases y with
  | d p=>cases p<;>first | rfl | cases hc.1
  | _=>cases hc.1
 .rw[if_neg hc] at h;cases h
theorem zf1:OpR X (compareOp .Is) (rV2 X.mg X.K (fIs false)):=op_isN.imp fun x y H Q hx__=>by
 obtain ⟨W,ox,oy,As,Bs,z,o1,o2,dm,hf,q⟩:=hx__;obtain ⟨rfl,nz,rfl⟩:=znl hf;refine ⟨o2.non, ?_⟩;rw[o1.nonIff nz];exact q _ H W [] .refl (.d (.bl _))
theorem zn9:OpR X (compareOp .IsNot) (rV2 X.mg X.K (fIs true)):=op_notN.imp fun x y H Q hx__=>by
 obtain ⟨W,ox,oy,As,Bs,z,o1,o2,dm,hf,q⟩:=hx__;obtain ⟨rfl,nz,rfl⟩:=znl hf;refine ⟨o2.non, ?_⟩;rw[o1.nonIff nz];exact q _ H W [] .refl (.d (.bl _))
end
def gRet {α:Type} (a:α):Rho->Re α:=fun ρ=>.ok a ρ true
def zcl {α β:Type} (G:Rho->Re α) (F:α->Rho->Re β):Rho->Re β:=fun ρ=>(G ρ).bind fun a ρ1 q1=>(F a ρ1).bind fun b ρ2 q2=>.ok b ρ2 (q1&&q2)
def eSc {α:Type} (dec:O->Option α) (A:EF):Rho->Re α:=fun ρ=>(A ρ).bind fun r ρ' q=>match vn ρ' r with
 | some o=>match dec o with
  | some a=>.ok a ρ' q
  | none=>.bad
 | none=>.bad
def decI:O->Option Int
 | .d (.int i)=>some i
 | _=>none
def decB:O->Option Bool
 | .d (.bool b)=>some b
 | _=>none
def eOfB (G:TF):EF:=fun ρ=>(G ρ).bind fun b ρ' q=>.ok (.own (.d (.bool b))) ρ' q
section
variable {mg:Str->Option Value} {K:PySem.W.Frag} {E:XK} {σ:St} {H:Hp}
theorem Ok.next {W:Addr->Prop} {ρ':Rho} {f f':Fp} {H':Hp} {W':Addr->Prop} {A:Addr->Prop} (s:Sl mg K H' W' σ ρ' f') (m:Mv (Inn f) H W A H' W') (h:∀x,Inn f' x->A x):Ok mg K H' W' σ ρ' f':=⟨s,fun x hx=>m.sub' x (h x hx),m.dom'⟩
theorem zg5 {W W1:Addr->Prop} {ρ:Rho} {f f1:Fp} {H1 H2:Hp} {A W2:Addr->Prop} {q1 q2:Bool} (ok:Ok mg K H W σ ρ f) (k1:q1=true->∀x,Inn f x->H1 x=H x) (m2:Mv (Inn f1) H1 W1 A H2 W2) (k2:q2=true->∀x,Inn f1 x->H2 x=H1 x) :
  (q1&&q2)=true->∀x,Inn f x->H2 x=H x:=fun hq x hx=>by
 rw[Bool.and_eq_true] at hq;have e1:=k1 hq.1 x hx
 by_cases i1:Inn f1 x
 .exact (k2 hq.2 x i1).trans e1
 .cases e:H x with
  | none=>exact absurd e (ok.dom x (ok.sub x hx))
  | some o=>
   rw[e] at e1;exact m2.same x o e1 i1
theorem tG.bind {α β:Type} {G:Rho->Re α} {F:α->Rho->Re β} {Q:β->Hp->Prop} (h:tG mg K E (zcl G F) σ H Q):tG mg K E G σ H fun a H1=>tG mg K E (F a) σ H1 Q:=by
 obtain ⟨W,ρ,f,ok,q⟩:=h;refine ⟨W,ρ,f,ok, ?_⟩;unfold zcl at q
 cases a:G ρ with
 | bad=>rw[a] at q;exact q
 | ex c ρ'=>rw[a] at q;exact q
 | ok x ρ1 q1=>
  rw[a] at q;intro H1 W1 f1 s1 m1 k1;refine ⟨W1,ρ1,f1,.next s1 m1 fun _ z=>z, ?_⟩;dsimp only[Re.bind] at q
  cases b:F x ρ1 with
  | bad=>rw[b] at q;exact q
  | ex c ρ'=>rw[b] at q;exact fun H2 W2 f2 s2 m2=>q H2 W2 f2 s2 (m1.trans m2)
  | ok y ρ2 q2=>rw[b] at q;exact fun H2 W2 f2 s2 m2 k2=>q H2 W2 f2 s2 (m1.trans m2) (zg5 ok k1 m2 k2)
def zl3 {α:Type} (G:Rho->Re α) (F:α->EF):EF:=zcl G F
theorem tG.then {α:Type} {G:Rho->Re α} {F:α->EF} {Q:VK} (h:tR mg K E (zl3 G F) σ H Q):tG mg K E G σ H fun a H1=>tR mg K E (F a) σ H1 Q:=by
 obtain ⟨W,ρ,f,ok,q⟩:=h;refine ⟨W,ρ,f,ok, ?_⟩;unfold zl3 zcl at q
 cases a:G ρ with
 | bad=>rw[a] at q;exact q
 | ex c ρ'=>rw[a] at q;exact q
 | ok x ρ1 q1=>
  rw[a] at q;intro H1 W1 f1 s1 m1 k1;refine ⟨W1,ρ1,f1,.next s1 m1 fun _ z=>z, ?_⟩;dsimp only[Re.bind] at q
  cases b:F x ρ1 with
  | bad=>rw[b] at q;exact q
  | ex c ρ'=>rw[b] at q;exact fun H2 W2 f2 s2 m2=>q H2 W2 f2 s2 (m1.trans m2)
  | ok y ρ2 q2=>rw[b] at q;exact fun v H2 W2 f2 B s2 r2 n2 m2 k2=>q v H2 W2 f2 B s2 r2 n2 (m1.trans m2) (zg5 ok k1 m2 k2)
theorem tG.ret {α:Type} {a:α} {Q:α->Hp->Prop} (h:tG mg K E (gRet a) σ H Q):Q a H:=by
 obtain ⟨W,ρ,f,ok,q⟩:=h;exact q H W f ok.s (.refl ok.sub ok.dom) fun _ _ _=>rfl
theorem zoq {α:Type} {dec:O->Option α} {val:α->V} (hd:∀{H:Hp} {W:Addr->Prop} {v:V} {o:O} {As:List Addr} {a:α},Ow mg K H W v o As->dec o=some a->v=val a) {G:EF} {Q:α->Hp->Prop} (h:tG mg K E (eSc dec G) σ H Q) :
  tR mg K E G σ H fun x H'=>∃k,x=val k/\Q k H':=by
 obtain ⟨W,ρ,f,ok,q⟩:=h;refine ⟨W,ρ,f,ok, ?_⟩;unfold eSc at q
 cases a:G ρ with
 | bad=>rw[a] at q;exact q
 | ex c ρ'=>rw[a] at q;exact q
 | ok r ρ' q'=>
  rw[a] at q;intro v H' W' f' B s rv n m k;dsimp only[Re.bind] at q
  cases e:vn ρ' r with
  | none=>rw[e] at q;exact False.elim q
  | some o=>
   rw[e] at q;dsimp only at q;obtain ⟨a1,a2⟩:=zd0 e;obtain ⟨_,ow,_⟩:=s.vw rv a1 a2
   cases e':dec o with
   | none=>rw[e'] at q;exact False.elim q
   | some a=>rw[e'] at q;exact ⟨a,hd ow e',q H' W' f' s (m.narrow fun x hx=>.inl hx) k⟩
theorem zkI {H:Hp} {W:Addr->Prop} {v:V} {o:O} {As:List Addr} {a:Int} (h:Ow mg K H W v o As) (e:decI o=some a):v=.int a:=by
 unfold decI at e;split at e
 .cases e;exact h.int
 .cases e
theorem zpb {H:Hp} {W:Addr->Prop} {v:V} {o:O} {As:List Addr} {a:Bool} (h:Ow mg K H W v o As) (e:decB o=some a):v=.bl a:=by
 unfold decB at e;split at e
 .cases e;exact h.bl
 .cases e
theorem zni {G:TF} {Q:VK} (h:tR mg K E (eOfB G) σ H Q):tG mg K E G σ H fun b H1=>Q (.bl b) H1:=by
 obtain ⟨W,ρ,f,ok,q⟩:=h;refine ⟨W,ρ,f,ok, ?_⟩;unfold eOfB at q
 cases a:G ρ with
 | bad=>rw[a] at q;exact q
 | ex c ρ'=>rw[a] at q;exact q
 | ok b ρ' q'=>
  rw[a] at q;exact fun H' W' f' s m k=>q (.bl b) H' W' f' [] s ⟨.d (.bl b),List.nodup_nil⟩ (fun x z=>nomatch z) (m.narrow fun x hx=>hx.resolve_right fun z=>nomatch z) k
theorem twoG {α:Type} {A:EF} {G:Rho->Re α} {R:V->α->Hp->Prop} {W:Addr->Prop} {ρ:Rho} {f:Fp} (ok:Ok mg K H W σ ρ f)
  (h:match A ρ with
   | .bad=>False
   | .ex c ρ'=>∀H' W' f',Sl mg K H' W' σ ρ' f'->Mv (Inn f) H W (Inn f') H' W'->XW mg K E c H'
   | .ok ra ρ1 q1=>match G ρ1 with
    | .bad=>False
    | .ex c ρ'=>∀H' W' f',Sl mg K H' W' σ ρ' f'->Mv (Inn f) H W (Inn f') H' W'->XW mg K E c H'
    | .ok b ρ2 q2=>pok ρ1 q2 ra=true/\∀v H' W' f' C,Sl mg K H' W' σ ρ2 f'->RvOk mg K H' W' σ v ra C->(∀x∈C,¬Inn f' x)->
      Mv (Inn f) H W (fun x=>Inn f' x\/x∈C) H' W'->((q1&&q2)=true->∀x,Inn f x->H' x=H x)->R v b H') :
  tR mg K E A σ H fun x H1=>tG mg K E G σ H1 fun y H2=>R x y H2:=by
 refine ⟨W,ρ,f,ok, ?_⟩
 cases a:A ρ with
 | bad=>rw[a] at h;exact h
 | ex c ρ'=>rw[a] at h;exact h
 | ok ra ρ1 q1=>
  rw[a] at h;intro v H1 W1 f1 C s1 r1 n1 m1 k1;refine ⟨W1,ρ1,f1,.next s1 m1 fun x hx=>.inl hx, ?_⟩;have hC:∀x∈C,W1 x/\¬Inn f1 x:=fun x hx=>⟨m1.sub' x (.inr hx),n1 x hx⟩
  dsimp only at h
  cases b:G ρ1 with
  | bad=>rw[b] at h;exact h
  | ex c ρ'=>
   rw[b] at h;exact fun H2 W2 f2 s2 m2=>h H2 W2 f2 s2 (m1.trans (m2.wide (fun x hx=>.inl hx) m1.sub'))
  | ok y ρ2 q2=>
   rw[b] at h;obtain ⟨hp,h⟩:=h;intro H2 W2 f2 s2 m2 k2;refine h v H2 W2 f2 C s2 (r1.on s1 hC m2 k2 hp) (fun x hx z=>m2.apart (hC x hx).1 (hC x hx).2 z) (m1.trans ⟨fun b o e n=>m2.same b o e fun z=>n (.inl z),m2.less,fun x w=>(m2.more x w).imp .inl id,fun x w=>?_,m1.sub',m2.dom,fun x w=>?_,m2.dom'⟩) (zg5 ok k1 m2 k2)
   .exact w.elim (fun w=>(m2.ours x w).imp .inl id) fun w=>.inl (.inr w)
   .exact w.elim (m2.sub' x) fun w=>(m2.hand (hC x w).1 (hC x w).2).1
end
section
variable {X:Cx} {E:XK}
def eAnd (A B:EF):EF:=eOfB (zcl (eSc decB A) fun c=>if c then eSc decB B else gRet false)
def eOr (A B:EF):EF:=eOfB (zcl (eSc decB A) fun c=>if c then gRet true else eSc decB B)
def eNot (A:EF):EF:=eOfB (zcl (eSc decB A) fun c=>gRet (!c))
theorem zkM {op a pos} {A:EF} (h:VR X E a A):VR X E (.BoolOp op [a] pos) A:=zqx h
theorem toB {B:EF} {σ:St} {H:Hp} {Q:Bool->Hp->Prop} (h:tG X.mg X.K E (eSc decB B) σ H Q):tR X.mg X.K E B σ H fun x H'=>∃b,x=.bl b/\Q b H':=zoq zpb h
theorem tR.mono {mg:Str->Option Value} {K:PySem.W.Frag} {G:EF} {σ:St} {H:Hp} {Q Q':VK} (h:tR mg K E G σ H Q) (i:∀v H,Q v H->Q' v H):tR mg K E G σ H Q':=by
 obtain ⟨W,ρ,f,ok,q⟩:=h;refine ⟨W,ρ,f,ok, ?_⟩
 cases a:G ρ with
 | bad=>rw[a] at q;exact q
 | ex c ρ'=>rw[a] at q;exact q
 | ok r ρ1 q1=>rw[a] at q;exact fun v H' W' f' B s r n m k=>i v H' (q v H' W' f' B s r n m k)
theorem tG.mono {α:Type} {mg:Str->Option Value} {K:PySem.W.Frag} {G:Rho->Re α} {σ:St} {H:Hp} {Q Q':α->Hp->Prop} (h:tG mg K E G σ H Q) (i:∀v H,Q v H->Q' v H):tG mg K E G σ H Q':=by
 obtain ⟨W,ρ,f,ok,q⟩:=h;refine ⟨W,ρ,f,ok, ?_⟩
 cases a:G ρ with
 | bad=>rw[a] at q;exact q
 | ex c ρ'=>rw[a] at q;exact q
 | ok r ρ1 q1=>rw[a] at q;exact fun H' W' f' s m k=>i r H' (q H' W' f' s m k)
theorem zh5 {a b rest pos} {A B:EF} (ha:VR X E a A) (hb:VR X E (.BoolOp .And (b::rest) pos) B):VR X E (.BoolOp .And (a::b::rest) pos) (eAnd A B):=(zqv ha hb).imp fun σ H Q h=>by
 refine tR.mono (toB (tG.bind (zni h))) fun v H1 ⟨c,e,q⟩=>⟨c,e, ?_⟩
 cases c with
 | true=>exact tR.mono (toB q) fun v H2 ⟨b,e,q⟩=>by rw[e];exact q
 | false=>exact tG.ret (a:=false) (Q:=fun b H1=>Q (.bl b) H1) q
def zeo (A B C:EF) (p q:Int->Int->Bool):TF:=zcl (eSc decI A) fun a=>zcl (eSc decI B) fun b=>if p a b then zcl (eSc decI C) fun c=>gRet (q b c) else gRet false
theorem toI {B:EF} {σ:St} {H:Hp} {Q:Int->Hp->Prop} (h:tG X.mg X.K E (eSc decI B) σ H Q):tR X.mg X.K E B σ H fun x H'=>∃b,x=.int b/\Q b H':=zoq zkI h
theorem zjZ {A B C:EF} {p q:Int->Int->Bool} {σ:St} {H:Hp} {Q:VK} (h:tG X.mg X.K E (zeo A B C p q) σ H fun b H1=>Q (.bl b) H1) :
  zl8 (rI0 fun i j=>.bl (p i j)) (rI0 fun i j=>.bl (q i j)) (tR X.mg X.K E A) (tR X.mg X.K E B) (tR X.mg X.K E C) σ H Q:=by
 refine tR.mono (toI (tG.bind h)) fun v H1 ⟨i,e,h1⟩=>tR.mono (toI (tG.bind h1)) fun u H2 hx__=>?_
 obtain ⟨j,e',h2⟩:=hx__;refine ⟨i,j,e,e',_,rfl, ?_⟩
 cases hp:p i j with
 | true=>
  rw[hp] at h2;exact tR.mono (toI (tG.bind h2)) fun w H3 ⟨k,e'',h3⟩=>⟨j,k,e',e'',tG.ret (a:=q j k) (Q:=fun b H1=>Q (.bl b) H1) h3⟩
 | false=>
  rw[hp] at h2;exact tG.ret (a:=false) (Q:=fun b H1=>Q (.bl b) H1) h2
theorem zjC {op op':CmpOp} {a b c:Expr} {pos:Pos} {A B C:EF} {p q:Int->Int->Bool} (ho:OpR X (compareOp op) (rI0 fun i j=>.bl (p i j))) (ho':OpR X (compareOp op') (rI0 fun i j=>.bl (q i j))) (ha:VR X E a A) (hb:VR X E b B) (hc:VR X E c C)
  (hm:lastMarks [op,op'] [b,c]=false:=by with_unfolding_all rfl):VR X E (.Compare a [op,op'] [b,c] pos) (eOfB (zeo A B C p q)):=(zmg ho ho' ha hb hc hm).imp fun σ H Q h=>zjZ (zni h)
theorem zge {op op':CmpOp} {a b c:Expr} {pos:Pos} {A B C:EF} {p q:Int->Int->Bool} (ho:OpR X (compareOp op) (rI0 fun i j=>.bl (p i j))) (ho':OpR X (compareOp op') (rI0 fun i j=>.bl (q i j))) (ha:VR X E a A) (hb:VR X E b B) (hc:VR X E c C)
  (hm:lastMarks [op,op'] [b,c]=false:=by with_unfolding_all rfl):VT X E (.Compare a [op,op'] [b,c] pos) (zeo A B C p q):=(zna ho ho' ha hb hc hm).imp fun σ H Q h=>zjZ (tG.mono h fun b H1 q=>⟨b,rfl,q⟩)
def gAnd (S T:TF):TF:=zcl S fun c=>if c then T else gRet false
def gOr (S T:TF):TF:=zcl S fun c=>if c then gRet true else T
def gNot (S:TF):TF:=zcl S fun c=>gRet (!c)
abbrev VW (X:Cx) (E:XK) (e:Expr) (G:TF):Prop:=PW X e (tT X.mg X.K E G)
theorem PW.imp {X:Cx} {e:Expr} {t t':TT} (h:PW X e t) (i:∀σ H Q,t' σ H Q->t σ H Q):PW X e t':=fun whole pins s σ H Q I q=>h whole pins s σ H Q I (i σ H Q q)
theorem zlz {a pos} {S:TF} (ha:VT X E a S):VW X E (.BoolOp .And [a] pos) S:=zoj ha
theorem zgZ {a pos} {S:TF} (ha:VT X E a S):VW X E (.BoolOp .Or [a] pos) S:=zqL ha
theorem znQ {a b rest pos} {S T:TF} (ha:VT X E a S) (hb:VW X E (.BoolOp .And (b::rest) pos) T):VW X E (.BoolOp .And (a::b::rest) pos) (gAnd S T):=(zrs ha hb).imp fun σ H Q h=>tG.mono (tG.bind h) fun c H1 q=>by
 cases c with
 | true=>exact q
 | false=>exact tG.ret q
theorem ziU {a b rest pos} {S T:TF} (ha:VT X E a S) (hb:VW X E (.BoolOp .Or (b::rest) pos) T):VW X E (.BoolOp .Or (a::b::rest) pos) (gOr S T):=(ztj ha hb).imp fun σ H Q h=>tG.mono (tG.bind h) fun c H1 q=>by
 cases c with
 | false=>exact q
 | true=>exact tG.ret q
theorem vt_w {e:Expr} {S:TF} (h:VW X E e S):VT X E e S:=PW.pt h
theorem zeV {a pos} {S:TF} (ha:VT X E a S):VT X E (.UnaryOp .Not a pos) (gNot S):=(zrF ha).imp fun σ H Q h=>tG.mono (tG.bind h) fun c H1 q=>tG.ret q
def trV:O->Option Bool
 | .d (.bool b)=>some b
 | .d (.int i)=>some (i != 0)
 | .d .none=>some false
 | .d (.str s)=>if s.length<=sizeLine then some ((s.length:Int) != 0) else none
 | o=>match els o with
  | some (_,os)=>some (!os.isEmpty)
  | none=>none
theorem zqQ {mg:Str->Option Value} {K:PySem.W.Frag} {H:Hp} {W:Addr->Prop} {v:V} {o:O} {As:List Addr} {b:Bool} (h:Ow mg K H W v o As) (e:trV o=some b):TruV K v H b:=by
 unfold trV at e;split at e
 .cases e;rw[h.bl];exact rfl
 .cases e;rw[h.int];exact rfl
 .cases e;rw[h.non];exact rfl
 .rename_i s
  by_cases hz:s.length<=sizeLine
  .rw[if_pos hz] at e;cases e;rw[h.str];exact ⟨hz,rfl⟩
  .rw[if_neg hz] at e;cases e
 .split at e
  .rename_i k os q;cases e;obtain ⟨a,vs,A,rfl,h2,h3,_⟩:=h.els q
   have:vs.isEmpty=os.isEmpty:=by
    have:=h3.length
    cases vs<;>cases os<;>first | rfl | simp at this
   cases k with
   | true=>exact .inl ⟨vs,SqL.of h2,by rw[this]⟩
   | false=>exact .inr (.inl ⟨vs,SqT.of h2,by rw[this]⟩)
  .cases e
theorem zg2 {a:Expr} {A:EF} (ha:VR X E a A) (he:∀whole,isTrue a X.env whole=(do let v <-whole;standAt a.pos;holding [v] (truthy v))):VT X E a (eSc trV A):=(zmt ha he).imp fun σ H Q h=>by
 obtain ⟨W,ρ,f,ok,q⟩:=h;refine ⟨W,ρ,f,ok, ?_⟩;unfold eSc at q
 cases a:A ρ with
 | bad=>rw[a] at q;exact q
 | ex c ρ'=>rw[a] at q;exact q
 | ok r ρ' q'=>
  rw[a] at q;intro v H' W' f' B s rv n m k;dsimp only[Re.bind] at q
  cases e:vn ρ' r with
  | none=>rw[e] at q;exact False.elim q
  | some o=>
   rw[e] at q;dsimp only at q;obtain ⟨a1,a2⟩:=zd0 e;obtain ⟨_,ow,_⟩:=s.vw rv a1 a2
   cases e':trV o with
   | none=>rw[e'] at q;exact False.elim q
   | some b=>rw[e'] at q;exact ⟨b,zqQ ow e',q H' W' f' s (m.narrow fun x hx=>.inl hx) k⟩
def eIf (S:TF) (A B:EF):EF:=zl3 S fun c=>if c then A else B
theorem zsn {c a b:Expr} {pos:Pos} {S:TF} {A B:EF} (hc:VT X E c S) (ha:VR X E a A) (hb:VR X E b B):VR X E (.IfExp c a b pos) (eIf S A B):=(zng hc ha hb).imp fun σ H Q h=>tG.mono (tG.then h) fun c H1 q=>by
 cases c<;>exact q
end
def ze9 (r:Rv) (k:Nat):O->Option Rv
 | .z=>none
 | .d x=>some (.own (.d x))
 | .x c=>some (.own (.x c))
 | .g c=>some (.own (.g c))
 | .q c=>some (.own (.q c))
 | o=>match r with
  | .own _=>some (.own o)
  | .at i p=>some (.at i (p++[k]))
def fIxS:O->Int->Option O
 | .d (.str s),i=>if s.length<=sizeLine then (atI s.cps.toList i).map fun c=>.d (.str ⟨#[c]⟩) else none
 | .q xs,i=>match atI xs i with
  | some (.int n)=>some (.d (.int n))
  | _=>none
 | _,_=>none
def gIx (ρ:Rho) (r:Rv) (i:Int):Option Rv:=match vn ρ r with
 | some o=>match els o with
  | some (_,os)=>match ixN os.length i with
   | some k=>match os[k]? with
    | some c=>ze9 r k c
    | none=>none
   | none=>none
  | none=>(fIxS o i).map Rv.own
 | none=>none
def eIx (A B:EF):EF:=fun ρ=>(A ρ).bind fun ra ρ1 q1=>(eSc decI B ρ1).bind fun i ρ2 q2=>if pok ρ1 q2 ra then match gIx ρ2 ra i with
 | some r=>.ok r ρ2 (q1&&q2)
 | none=>.bad
 else .bad
section
variable {mg:Str->Option Value} {K:PySem.W.Frag} {H:Hp} {W:Addr->Prop} {σ:St} {ρ:Rho} {f:Fp}
theorem zo4 {r r':Rv} {k:Nat} {c:O} {a:Addr} {vs:List V} {u:V} {C A:List Addr} (hr:RvOk mg K H W σ (.ref a) r C) (hv:H a=some (.lst vs)\/H a=some (.tup vs)) (hk:vs[k]? = some u) (ou:Ow mg K H W u c A) (hA:∀o,r=.own o->A.Sublist C) (e:ze9 r k c=some r') :
  ∃B,RvOk mg K H W σ u r' B/\∀x∈B,x∈C:=by
 unfold ze9 at e;split at e
 .cases e
 .cases e;cases ou with | d h=>exact ⟨[],⟨.d h,List.nodup_nil⟩,fun _ z=>nomatch z⟩
 .cases e;cases ou with | x h1 h2 h3 h4=>exact ⟨[],⟨.x h1 h2 h3 h4,List.nodup_nil⟩,fun _ z=>nomatch z⟩
 .cases e;cases ou with | g h1 h2=>exact ⟨[],⟨.g h1 h2,List.nodup_nil⟩,fun _ z=>nomatch z⟩
 .cases e;cases ou with | q h1=>exact ⟨[],⟨.q h1,List.nodup_nil⟩,fun _ z=>nomatch z⟩
 .cases r with
  | own o=>cases e;exact ⟨A,⟨ou,hr.2.sublist (hA o rfl)⟩,fun x hx=>(hA o rfl).subset hx⟩
  | «at» i p=>
   cases e;obtain ⟨h1,w,h2,h3⟩:=hr;exact ⟨[],⟨rfl,w,h2,h3.app ⟨a,vs,u,rfl,hv,hk,rfl⟩⟩,fun _ z=>nomatch z⟩
theorem Sl.vw2 {r:Rv} {v:V} {B:List Addr} {o:O} (s:Sl mg K H W σ ρ f) (h:RvOk mg K H W σ v r B) (e:L2.vw ρ r=some o) (nz:o≠.z):∃C,Ow mg K H W v o C/\(∀u,r=.own u->C=B):=by
 cases r with
 | own u=>cases e;exact ⟨B,h.1,fun _ _=>rfl⟩
 | «at» i p=>obtain ⟨C,h1,_⟩:=s.vw h e nz;exact ⟨C,h1,fun u z=>nomatch z⟩
end
section
variable {X:Cx} {E:XK}
theorem zaz {a b:Expr} {A B:EF} {pos:Pos} (ha:VR X E a A) (hb:VR X E b B) (hs:zld b):VR X E (.Subscript a b pos) (eIx A B):=(ztA zqW ha hb hs).imp fun σ H Q hx__=>by
 obtain ⟨W,ρ,f,ok,q⟩:=hx__;have main:tR X.mg X.K E A σ H fun x H1=>tG X.mg X.K E (eSc decI B) σ H1 fun i H2=>rIx X.K x (.int i) H2 Q:=by
  refine twoG ok ?_;unfold eIx at q
  cases a:A ρ with
  | bad=>rw[a] at q;exact q
  | ex c ρ'=>rw[a] at q;exact q
  | ok ra ρ1 q1=>
   rw[a] at q;dsimp only[Re.bind] at q ⊢
   cases b:eSc decI B ρ1 with
   | bad=>rw[b] at q;exact q
   | ex c ρ'=>rw[b] at q;exact q
   | ok i ρ2 q2=>
    rw[b] at q;dsimp only at q ⊢
    by_cases hp:pok ρ1 q2 ra=true
    .rw[if_pos hp] at q;refine ⟨hp,fun v H' W' f' C s r n m k=>?_⟩
     cases e0:gIx ρ2 ra i with
     | none=>rw[e0] at q;exact False.elim q
     | some r'=>
      rw[e0] at q;unfold gIx at e0
      cases e1:vn ρ2 ra with
      | none=>rw[e1] at e0;cases e0
      | some o=>
       rw[e1] at e0;dsimp only at e0;obtain ⟨a1,a2⟩:=zd0 e1;obtain ⟨D,ow,hD⟩:=s.vw2 r a1 a2
       cases e2:els o with
       | none=>
        rw[e2] at e0;dsimp only at e0;unfold fIxS at e0;split at e0
        .rename_i y x
         by_cases hz:x.length<=sizeLine
         .rw[if_pos hz] at e0
          cases e3:atI x.cps.toList i with
          | none=>rw[e3] at e0;cases e0
          | some c=>
           rw[e3] at e0;cases e0;exact .inr (.inr ⟨x,i,c,ow.str,rfl,hz,e3,q _ H' W' f' [] s ⟨.d (.str _),List.nodup_nil⟩ (fun x z=>nomatch z) (m.narrow fun x hx=>.inl (hx.resolve_right fun z=>nomatch z)) k⟩)
         .rw[if_neg hz] at e0;cases e0
        .rename_i y xs
         cases e3:atI xs i with
         | none=>rw[e3] at e0;cases e0
         | some c=>
          rw[e3] at e0
          cases c with
          | int c=>
           cases e0
           cases ow with
           | q hq=>exact .inl ⟨_,xs,i,.int c,rfl,rfl,hq.sq,e3,q _ H' W' f' [] s ⟨.d (.int _),List.nodup_nil⟩ (fun x z=>nomatch z) (m.narrow fun x hx=>.inl (hx.resolve_right fun z=>nomatch z)) k⟩
          | _=>cases e0
        .cases e0
       | some z=>
        obtain ⟨kd,os⟩:=z;rw[e2] at e0;dsimp only at e0;obtain ⟨p,vs,As,rfl,h2,h3,h4⟩:=ow.els e2
        cases e3:ixN os.length i with
        | none=>rw[e3] at e0;cases e0
        | some j=>
         rw[e3] at e0;dsimp only at e0
         cases e4:os[j]? with
         | none=>rw[e4] at e0;cases e0
         | some c=>
          rw[e4] at e0;obtain ⟨u,Au,g1,g2,g3⟩:=h3.get e4;have hv:H' p=some (.lst vs)\/H' p=some (.tup vs):=by
           cases kd with
           | true=>exact .inl h2
           | false=>exact .inr h2
          obtain ⟨B',r1,in1⟩:=zo4 r hv g1 g2 (fun o' z=>(hD o' z) ▸ (g3.trans h4)) e0;have qq:Q u H':=q u H' W' f' B' s r1 (fun x hx=>n x (in1 x hx)) (m.narrow fun x hx=>hx.imp id (in1 x)) k;have at':atI vs i=some u:=by unfold atI;rw[h3.length,e3];exact g1
          cases kd with
          | true=>exact .inl ⟨p,vs,i,u,rfl,rfl,SqL.of h2,at',qq⟩
          | false=>exact .inr (.inl ⟨p,vs,i,u,rfl,rfl,SqT.of h2,at',qq⟩)
    .rw[if_neg hp] at q;exact False.elim q
 exact tR.mono main fun x H1 h=>tR.mono (toI h) fun y H2 ⟨i,e,q⟩=>by rw[e];exact q
def oNo:Rho->Re (Option Int):=gRet none
def zh9 (A:EF):Rho->Re (Option Int):=zcl (eSc decI A) fun i=>gRet (some i)
abbrev VO (X:Cx) (E:XK) (e:Option Expr) (G:Rho->Re (Option Int)):Prop:=PO X e (tG X.mg X.K E G)
theorem zi2:VO X E none oNo:=fun pins s σ H Q I h=>zo6 pins s σ H Q I (tG.ret (E:=E) h)
theorem zje {e:Expr} {A:EF} (h:VR X E e A):VO X E (some e) (zh9 A):=fun pins s σ H Q I q=>zoy h pins s σ H Q I (tR.mono (toI (tG.bind q)) fun x H1 ⟨i,e,q⟩=>⟨i,e,tG.ret q⟩)
def fSl (o:O) (lo hi:Option Int):Option O:=match els o with
 | some (true,os)=>match lds os with
  | some ds=>some (.l ((cutD ds lo hi).map O.d))
  | none=>none
 | some (false,os)=>match lds os with
  | some ds=>if HT.sIx ds.length 0 lo=0/\HT.sIx ds.length ds.length hi=ds.length then none else some (.d (.tuple (cutD ds lo hi)))
  | none=>none
 | _=>none
def eSl (A:EF) (L U:Rho->Re (Option Int)):EF:=fun ρ=>(A ρ).bind fun ra ρ1 q1=>(zcl L (fun l=>zcl U fun u=>gRet (l,u)) ρ1).bind fun lu ρ2 q2=>if pok ρ1 q2 ra then match vn ρ2 ra with
  | some o=>match fSl o lu.1 lu.2 with
   | some z=>.ok (.own z) ρ2 (q1&&q2)
   | none=>.bad
  | none=>.bad
 else .bad
theorem zoY {e:Expr} {lo hi:Option Expr} {A:EF} {L U:Rho->Re (Option Int)} {pos p2:Pos} (he:VR X E e A) (hl:VO X E lo L) (hu:VO X E hi U):VR X E (.Subscript e (.Slice lo hi none p2) pos) (eSl A L U):=(zmU (sl_list.or zqD) he hl hu).imp fun σ H Q hx__=>by
 obtain ⟨W,ρ,f,ok,q⟩:=hx__;have main:tR X.mg X.K E A σ H fun x H1=>tG X.mg X.K E (zcl L fun l=>zcl U fun u=>gRet (l,u)) σ H1 fun lu H2=>rSlL X.K x lu.1 lu.2 H2 Q\/rSlT X.K x lu.1 lu.2 H2 Q:=by
  refine twoG ok ?_;unfold eSl at q
  cases a:A ρ with
  | bad=>rw[a] at q;exact q
  | ex c ρ'=>rw[a] at q;exact q
  | ok ra ρ1 q1=>
   rw[a] at q;dsimp only[Re.bind] at q ⊢
   cases b:zcl L (fun l=>zcl U fun u=>gRet (l,u)) ρ1 with
   | bad=>rw[b] at q;exact q
   | ex c ρ'=>rw[b] at q;exact q
   | ok lu ρ2 q2=>
    rw[b] at q;dsimp only at q ⊢
    by_cases hp:pok ρ1 q2 ra=true
    .rw[if_pos hp] at q;refine ⟨hp,fun v H' W' f' C s r n m k=>?_⟩
     cases e1:vn ρ2 ra with
     | none=>rw[e1] at q;exact False.elim q
     | some o=>
      rw[e1] at q;dsimp only at q;obtain ⟨a1,a2⟩:=zd0 e1;obtain ⟨D,ow,_⟩:=s.vw r a1 a2
      cases e2:fSl o lu.1 lu.2 with
      | none=>rw[e2] at q;exact False.elim q
      | some z=>
       rw[e2] at q;unfold fSl at e2;split at e2
       .rename_i os e3
        cases e4:lds os with
        | none=>rw[e4] at e2;cases e2
        | some ds=>
         rw[e4] at e2;cases e2;obtain ⟨p,vs,rfl,h2,h3⟩:=ow.items e3 e4;refine .inl ⟨p,vs,rfl,SqL.of h2,fun p' hp'=>?_⟩;have g:Gr H' W' [p'] (upd H' p' (.lst (cutV vs lu.1 lu.2))) (fun x=>W' x\/x∈[p']):=.newO hp';obtain ⟨g1,g2,g3⟩:=g.fin s m fun x hx=>.inl hx
         exact q _ _ _ f' [p'] g1 ⟨.newL hp' (h3.cut lu.1 lu.2),g.nd⟩ g2 g3 fun hq=>g.quiet ok (k hq)
       .rename_i os e3
        cases e4:lds os with
        | none=>rw[e4] at e2;cases e2
        | some ds=>
         rw[e4] at e2;dsimp only at e2;obtain ⟨p,vs,rfl,h2,h3⟩:=ow.items e3 e4
         by_cases hz:HT.sIx ds.length 0 lu.1=0/\HT.sIx ds.length ds.length lu.2=ds.length
         .rw[if_pos hz] at e2;cases e2
         .rw[if_neg hz] at e2;cases e2;refine .inr ⟨p,vs,rfl,SqT.of h2,by rw[h3.length];exact hz,fun p' hp'=>?_⟩;have g:Gr H' W' [] (upd H' p' (.tup (cutV vs lu.1 lu.2))) W':=.new hp';obtain ⟨g1,g2,g3⟩:=g.fin s m fun x hx=>.inl hx
          exact q _ _ _ f' [] g1 ⟨.d (.tup (fun z=>m.dom' p' z hp') zbG ((h3.cut lu.1 lu.2).on g.d)),g.nd⟩ g2 g3 fun hq=>g.quiet ok (k hq)
       .cases e2
    .rw[if_neg hp] at q;exact False.elim q
 exact tR.mono main fun x H1 h=>tG.mono (tG.bind h) fun l H2 h2=>tG.mono (tG.bind h2) fun u H3 h3=>tG.ret h3
theorem zoO {e m:Expr} {te:TE} {pos p2:Pos} (he:PE X e te) (hm:PE X m (tC (.int (-1))))
  (hsub:∀o i,∃ops,subscripted (.Slice none none (some m) p2) false o i=operate ops (getItem o i)):PE X (.Subscript e (.Slice none none (some m) p2) pos) (fun σ H Q=>te σ H fun x H1=>∃a xs,x=.ref a/\H1 a=some (.lst xs)/\∀p,H1 p=none->Q (.ref p) (upd H1 p (.lst xs.reverse))):=by
 intro pins s σ H Q I h;refine Subscript_ (thn (he pins s σ H _ I h) fun v s1 hx__=>?_);obtain ⟨x,H1,I1,r1,a,xs,e,hx,q⟩:=hx__;subst e;cases r1;refine wpAny_Slice ?_;rw[evalPart_none];refine wpAny_pure ?_;refine wpAny_pure ?_;rw[evalPart_some];refine thn (hm pins s1 σ H1 (fun w H'=>w=.int (-1)/\H'=H1) I1 ⟨rfl,rfl⟩) fun vk s2 hx__=>?_
 obtain ⟨w,H2,I2,r2,ew,eH⟩:=hx__;subst ew eH;obtain ⟨tk,rfl⟩:=r2;have I4:Inv X pins σ H2 { s2 with heap:=s2.heap.push { cls:=.type "slice",data:=.fields #[.none,.none,.int (-1) tk] } }:=I2.kept (t':=s2.toks) fun b ob q=>Heap.get?_push_of_some _ q
 obtain ⟨its,r,ht,hz⟩:=I4.list (SqL.of hx);have hlen:=r.length;obtain ⟨ops,hops⟩:=hsub (.ref a) (.ref s2.heap.objs.size);refine tail_any (T:="list") (ops:=ops) ht.isList.typeIs slot_list_getitem.lookup ?_ hops;refine wpAny_getItem_list_slice (st:=some (-1)) ht.isList (Heap.IsSliceOf.new ..) .none .none (.int _ _) (by decide) ?_ (by rw[List.size_toArray,<-hlen];exact hz);rw[PySem.W.krv_pick];have hv:Vals xs.reverse its.reverse:=r.reverse;exact ⟨.ref _,_,I4.lnew (t':=s2.toks) hv (by rw[List.length_reverse];exact hz),rfl,q _ I4.fresh⟩
def fRev (o:O):Option O:=match els o with
 | some (true,os)=>match lds os with
  | some ds=>some (.l (ds.reverse.map O.d))
  | none=>none
 | _=>none
theorem zq9 {e m:Expr} {A:EF} {pos p2:Pos} (he:VR X E e A) (hm:PE X m (tC (.int (-1)))) (hsub:∀o i,∃ops,subscripted (.Slice none none (some m) p2) false o i=operate ops (getItem o i)):VR X E (.Subscript e (.Slice none none (some m) p2) pos) (e1 A fRev):=
 (zoO he hm hsub).imp fun σ H Q h=>tR.mono (vr1 (X:=X) h) fun x H1 hx__=>by
  obtain ⟨W,ox,As,z,o1,dm,hf,q⟩:=hx__;unfold fRev at hf;split at hf
  .rename_i os e3
   cases e4:lds os with
   | none=>rw[e4] at hf;cases hf
   | some ds=>
    rw[e4] at hf;cases hf;obtain ⟨p,vs,rfl,h2,h3⟩:=o1.items e3 e4;exact ⟨p,vs,rfl,h2,fun p' hp'=>q _ _ _ _ (.newO hp') (.newL hp' h3.rev)⟩
  .cases hf
def fIn (neg:Bool) (x y:O):Option O:=match fz x,fz y with
 | some d,some (.list ds)=>if SeqAt.shaped d&&SeqAt.shaped (.list ds) then some (.d (.bool (if neg then !ds.any fun y=>PyData.eqv y d else ds.any fun y=>PyData.eqv y d))) else none
 | some d,some (.tuple ds)=>if SeqAt.shaped d&&SeqAt.shaped (.tuple ds) then some (.d (.bool (if neg then !ds.any fun y=>PyData.eqv y d else ds.any fun y=>PyData.eqv y d))) else none
 | _,_=>none
def rInW (neg:Bool):R2:=fun x y H Q=>∃d ds,Dn H (fun _=>False) x d/\(Dn H (fun _=>False) y (.list ds)\/Dn H (fun _=>False) y (.tuple ds))/\SeqAt.shaped d=true/\SeqAt.shaped (.list ds)=true/\Q (.bl (if neg then !ds.any fun y=>PyData.eqv y d else ds.any fun y=>PyData.eqv y d)) H
theorem zqK (hu:X.A.units+65 < cLine):OpR X (compareOp .In) (rInW false):=by
 intro pins s σ H x y v u Q I rx ry ⟨d,ds,hx,hy,sd,ss,q⟩;obtain ⟨as,ra⟩:=hx.reads I rx;rcases hy with hy | hy
 .obtain ⟨bs,rb⟩:=hy.reads I ry;exact SeqAt.in_list_reads rb ra (SeqAt.canLay_of_shaped ss) (SeqAt.canLay_of_shaped sd) (room_in_shaped sd hu) ⟨.bl _,H,I,rfl,q⟩
 .obtain ⟨bs,rb⟩:=hy.reads I ry;exact SeqAt.in_tuple_reads rb ra (SeqAt.canLay_of_shaped ss) (SeqAt.canLay_of_shaped sd) (room_in_shaped sd hu) ⟨.bl _,H,I,rfl,q⟩
theorem zlF (hu:X.A.units+65 < cLine):OpR X (compareOp .NotIn) (rInW true):=by
 intro pins s σ H x y v u Q I rx ry ⟨d,ds,hx,hy,sd,ss,q⟩;obtain ⟨as,ra⟩:=hx.reads I rx;rcases hy with hy | hy
 .obtain ⟨bs,rb⟩:=hy.reads I ry;exact SeqAt.notIn_list_reads rb ra (SeqAt.canLay_of_shaped ss) (SeqAt.canLay_of_shaped sd) (room_in_shaped sd hu) ⟨.bl _,H,I,rfl,q⟩
 .obtain ⟨bs,rb⟩:=hy.reads I ry;exact SeqAt.notIn_tuple_reads rb ra (SeqAt.canLay_of_shaped ss) (SeqAt.canLay_of_shaped sd) (room_in_shaped sd hu) ⟨.bl _,H,I,rfl,q⟩
theorem znt {neg:Bool} {x y z:O} (h:fIn neg x y=some z):∃d ds,fz x=some d/\(fz y=some (.list ds)\/fz y=some (.tuple ds))/\SeqAt.shaped d=true/\SeqAt.shaped (.list ds)=true/\z=.d (.bool (if neg then !ds.any fun y=>PyData.eqv y d else ds.any fun y=>PyData.eqv y d)):=by
 unfold fIn at h;split at h
 .rename_i d ds e1 e2
  by_cases hz:(SeqAt.shaped d&&SeqAt.shaped (.list ds))=true
  .rw[if_pos hz] at h;cases h;rw[Bool.and_eq_true] at hz;exact ⟨d,ds,e1,.inl e2,hz.1,hz.2,rfl⟩
  .rw[if_neg hz] at h;cases h
 .rename_i d ds e1 e2
  by_cases hz:(SeqAt.shaped d&&SeqAt.shaped (.tuple ds))=true
  .rw[if_pos hz] at h;cases h;rw[Bool.and_eq_true] at hz;exact ⟨d,ds,e1,.inr e2,hz.1,hz.2,rfl⟩
  .rw[if_neg hz] at h;cases h
 .cases h
theorem zrx (hu:X.A.units+65 < cLine):OpR X (compareOp .In) (rV2 X.mg X.K (fIn false)):=(zqK hu).imp fun x y H Q hx__=>by
 obtain ⟨W,ox,oy,As,Bs,z,o1,o2,dm,hf,q⟩:=hx__;obtain ⟨d,ds,e1,e2,s1,s2,rfl⟩:=znt hf;exact ⟨d,ds,o1.plain e1,e2.imp o2.plain o2.plain,s1,s2,q _ H W [] .refl (.d (.bl _))⟩
theorem zhG (hu:X.A.units+65 < cLine):OpR X (compareOp .NotIn) (rV2 X.mg X.K (fIn true)):=(zlF hu).imp fun x y H Q hx__=>by
 obtain ⟨W,ox,oy,As,Bs,z,o1,o2,dm,hf,q⟩:=hx__;obtain ⟨d,ds,e1,e2,s1,s2,rfl⟩:=znt hf;exact ⟨d,ds,o1.plain e1,e2.imp o2.plain o2.plain,s1,s2,q _ H W [] .refl (.d (.bl _))⟩
def fNeg:O->Option O
 | .d (.int i)=>some (.d (.int (-i)))
 | _=>none
theorem zqy:UnR X (unaryOp .USub) (rV1 X.mg X.K fNeg):=un_neg.imp fun x H Q hx__=>by
 obtain ⟨W,ox,As,z,o1,dm,hf,q⟩:=hx__;unfold fNeg at hf;split at hf
 .cases hf;exact ⟨_,o1.int,q _ H W [] .refl (.d (.int _))⟩
 .cases hf
end
def vns (ρ:Rho):List Rv->Option (List O)
 | []=>some []
 | r::rs=>match vn ρ r,vns ρ rs with
  | some o,some os=>some (o::os)
  | _,_=>none
def eB (A:AF) (F:List O->Option O):EF:=fun ρ=>(A ρ).bind fun rs ρ1 q=>match vns ρ1 rs with
 | some os=>match F os with
  | some z=>.ok (.own z) ρ1 q
  | none=>.bad
 | none=>.bad
section
variable {mg:Str->Option Value} {K:PySem.W.Frag} {H:Hp} {W:Addr->Prop} {σ:St} {ρ:Rho} {f:Fp}
theorem znq (s:Sl mg K H W σ ρ f):∀{rs:List Rv} {vs:List V} {g:Fp} {os:List O},Rvs mg K H W σ vs rs g->vns ρ rs=some os->vs.length=os.length/\∀(k:Nat) (o:O),os[k]? = some o->∃v As,vs[k]? = some v/\Ow mg K H W v o As
 | [],vs,g,os,h,e=>by
  cases e;refine ⟨by have:=h.len;simpa using this,fun k o z=>by simp at z⟩
 | r::rs,vs,g,os,h,e=>by
  obtain ⟨v,us,rfl,h0,ht⟩:=h.tail;rw[vns] at e
  cases a:vn ρ r with
  | none=>rw[a] at e;cases e
  | some o=>
   cases b:vns ρ rs with
   | none=>rw[a,b] at e;cases e
   | some os'=>
    rw[a,b] at e;cases e;obtain ⟨l,k⟩:=znq s ht b;obtain ⟨a1,a2⟩:=zd0 a;obtain ⟨C,ow,_⟩:=s.vw h0 a1 a2;refine ⟨by simp[l],fun j u z=>?_⟩
    cases j with
    | zero=>cases z;exact ⟨v,C,rfl,ow⟩
    | succ j=>exact k j u z
end
section
variable {X:Cx} {E:XK}
theorem vB {A:AF} {F:List O->Option O} {σ:St} {H:Hp} {Q:VK} (h:tR X.mg X.K E (eB A F) σ H Q):tCB (rVs X.mg X.K F) (tRs X.mg X.K E A) σ H Q:=by
 obtain ⟨W,ρ,f,ok,q⟩:=h;refine ⟨W,ρ,f,ok, ?_⟩;unfold eB at q
 cases a:A ρ with
 | bad=>rw[a] at q;exact q
 | ex c ρ'=>rw[a] at q;exact q
 | ok rs ρ1 q1=>
  rw[a] at q;intro vs H' W' f' g s r n m k;dsimp only[Re.bind] at q
  cases e1:vns ρ1 rs with
  | none=>rw[e1] at q;exact False.elim q
  | some os=>
   rw[e1] at q;dsimp only at q
   cases e2:F os with
   | none=>rw[e2] at q;exact False.elim q
   | some z=>
    rw[e2] at q;obtain ⟨h1,h2⟩:=znq s r e1;refine ⟨W',os,z,h1,h2,m.dom',e2,fun w H'' W'' B' g' ow=>?_⟩;obtain ⟨g1,g2,g3⟩:=g'.fin s m fun x hx=>.inl hx
    exact q w H'' W'' f' B' g1 ⟨ow,g'.nd⟩ g2 g3 fun hq=>g'.quiet ok (k hq)
theorem zch {id:String} {F:List O->Option O} {x:Str} {e:Expr} {es:List Expr} {A:AF} {p pos:Pos} (hc:CallR X (.builtin id) (rVs X.mg X.K F)) (hg:Gl X x) (hm:X.mg x=none) (hv:bootBuiltins x=some (.builtin id)) (ha:VA X E (e::es) A) (hn:x≠"__name__":=by decide) (hdb:(x==("__debug__":Str))=false:=by decide)
  (he:starEach (e::es) X.env=(false,eval e X.env)::starEach es X.env:=by rfl) (hpl:(backTo pos (starEach es X.env)).any (·.1)=false:=by rfl):VR X E (.Call (.Name x p) (e::es) [] pos) (eB A F):=(zm3 hc hg hm hv ha hn hdb he hpl).imp fun _ _ _ h=>vB h
theorem zii {T:String} {F:List O->Option O} {x:Str} {e:Expr} {es:List Expr} {A:AF} {p pos:Pos} (hc:CallR X (.type T) (rVs X.mg X.K F)) (hg:Gl X x) (hm:X.mg x=none) (hv:bootBuiltins x=some (.type T)) (ha:VA X E (e::es) A) (hn:x≠"__name__":=by decide) (hdb:(x==("__debug__":Str))=false:=by decide)
  (he:starEach (e::es) X.env=(false,eval e X.env)::starEach es X.env:=by rfl) (hpl:(backTo pos (starEach es X.env)).any (·.1)=false:=by rfl):VR X E (.Call (.Name x p) (e::es) [] pos) (eB A F):=(zmd hc hg hm hv ha hn hdb he hpl).imp fun _ _ _ h=>vB h
def f1 (F:O->Option O):List O->Option O
 | [o]=>F o
 | _=>none
theorem cv1 {f:Value} {r:List V->Hp->VK->Prop} {F:O->Option O} (h:CallR X f r) (i:∀x H Q,rV1 X.mg X.K F x H Q->r [x] H Q):CallR X f (rVs X.mg X.K (f1 F)):=h.imp fun xs H Q hx__=>by
 obtain ⟨W,os,z,hl,ho,dm,hf,q⟩:=hx__;unfold f1 at hf;split at hf
 .rename_i o;obtain ⟨v,As,e,ow⟩:=ho 0 o rfl
  cases xs with
  | nil=>cases e
  | cons x xs=>
   cases e
   cases xs with
   | nil=>exact i _ H Q ⟨W,o,As,z,ow,dm,hf,q⟩
   | cons y ys=>simp at hl
 .cases hf
def f2I (F:Int->Int->Int):List O->Option O
 | [.d (.int a),.d (.int b)]=>some (.d (.int (F a b)))
 | _=>none
theorem cv2I {f:Value} {F:Int->Int->Int} (h:CallR X f (fun xs H Q=>∃i j,xs=[.int i,.int j]/\Q (.int (F i j)) H)):CallR X f (rVs X.mg X.K (f2I F)):=h.imp fun xs H Q hx__=>by
 obtain ⟨W,os,z,hl,ho,dm,hf,q⟩:=hx__;unfold f2I at hf;split at hf
 .rename_i a b;cases hf;obtain ⟨v,As,e,ow⟩:=ho 0 _ rfl;obtain ⟨v',As',e',ow'⟩:=ho 1 _ rfl
  cases xs with
  | nil=>cases e
  | cons x xs=>
   cases xs with
   | nil=>cases e'
   | cons y xs=>
    cases xs with
    | nil=>
     cases e
     cases e'
     exact ⟨a,b,by rw[ow.int,ow'.int],q _ H W [] .refl (.d (.int _))⟩
    | cons=>cases hl
 .cases hf
def zm2:O->Option O
 | .q xs=>some (.d (.int xs.length))
 | _=>none
def fLen (o:O):Option O:=match els o with
 | some (_,os)=>some (.d (.int os.length))
 | none=>zm2 o
theorem zfh:CallR X (.builtin "len") (rVs X.mg X.K (f1 fLen)):=cv1 ziJ fun x H Q hx__=>by
 obtain ⟨W,ox,As,z,o1,dm,hf,q⟩:=hx__;unfold fLen at hf;split at hf
 .rename_i k os e;cases hf;obtain ⟨a,vs,A,rfl,h2,h3,_⟩:=o1.els e;refine ⟨a,vs,rfl, ?_,by rw[h3.length];exact q _ H W [] .refl (.d (.int _))⟩
  cases k with
  | true=>exact .inl (SqL.of h2)
  | false=>exact .inr (SqT.of h2)
 .unfold zm2 at hf;split at hf
  .cases hf
   cases o1 with
   | q h=>exact ⟨_,_,rfl,.inl h.sq,q _ H W [] .refl (.d (.int _))⟩
  .cases hf
def zjd (o:O):Option O:=match els o with
 | some (_,os)=>match lds os with
  | some ds=>some (.l (ds.map O.d))
  | none=>none
 | none=>none
theorem zn6:CallR X (.type "list") (rVs X.mg X.K (f1 zjd)):=cv1 zia fun x H Q hx__=>by
 obtain ⟨W,ox,As,z,o1,dm,hf,q⟩:=hx__;unfold zjd at hf;split at hf
 .rename_i k os e
  cases e4:lds os with
  | none=>rw[e4] at hf;cases hf
  | some ds=>
   rw[e4] at hf;cases hf;obtain ⟨a,vs,rfl,h2,h3⟩:=o1.items e e4;refine ⟨a,vs,rfl, ?_,fun l hl=>q _ _ _ _ (.newO hl) (.newL hl h3)⟩
   cases k with
   | true=>exact .inl (SqL.of h2)
   | false=>exact .inr (SqT.of h2)
 .cases hf
def dIs:List PyData->Option (List Int)
 | []=>some []
 | .int i::ds=>(dIs ds).map (i::·)
 | _=>none
theorem znJ:∀{ds:List PyData} {ns:List Int},dIs ds=some ns->ds=ns.map PyData.int
 | [],ns,e=>by cases e;rfl
 | .int i::ds,ns,e=>by
  rw[dIs] at e
  cases q:dIs ds with
  | none=>rw[q] at e;cases e
  | some xs=>rw[q] at e;cases e;rw[znJ q];rfl
 | .none::_,_,e=>by cases e
 | .bool _::_,_,e=>by cases e
 | .str _::_,_,e=>by cases e
 | .list _::_,_,e=>by cases e
 | .tuple _::_,_,e=>by cases e
 | .dict _::_,_,e=>by cases e
def zsOf (o:O):Option (List Int):=match fz o with
 | some (.list ds)=>dIs ds
 | _=>none
theorem zl0 {o:O} {ns:List Int} (h:zsOf o=some ns):fz o=some (.list (ns.map PyData.int)):=by
 unfold zsOf at h;split at h
 .rename_i ds e;rw[e,znJ h]
 .cases h
def fSum (o:O):Option O:=(zsOf o).map fun ns=>.d (.int ns.sum)
theorem znF (hc:X.calm=true):CallR X (.builtin "sum") (rVs X.mg X.K (f1 fSum)):=cv1 (zlE hc) fun x H Q hx__=>by
 obtain ⟨W,ox,As,z,o1,dm,hf,q⟩:=hx__;unfold fSum at hf
 cases e:zsOf ox with
 | none=>rw[e] at hf;cases hf
 | some ns=>
  rw[e] at hf;cases hf;exact ⟨x,_,ns,rfl,o1.plain (zl0 e),q _ H W [] .refl (.d (.int _))⟩
theorem zn7 (hc:X.calm=true):CallR X (.builtin "max") (rVs X.mg X.K (f2I fun i j=>if j > i then j else i)):=cv2I (zlL hc)
def zlJ:O->Option O
 | .d (.int i)=>some (.d (.int i))
 | .d (.bool b)=>some (.d (.int (if b then 1 else 0)))
 | _=>none
theorem zqd:CallR X (.type "int") (rVs X.mg X.K (f1 zlJ)):=cv1 zlW fun x H Q hx__=>by
 obtain ⟨W,ox,As,z,o1,dm,hf,q⟩:=hx__;unfold zlJ at hf;split at hf
 .cases hf;exact .inl ⟨_,by rw[o1.int],q _ H W [] .refl (.d (.int _))⟩
 .cases hf;exact .inr ⟨_,by rw[o1.bl],q _ H W [] .refl (.d (.int _))⟩
 .cases hf
def insZ (n:Int):List Int->List Int
 | []=>[n]
 | m::ms=>if n<=m then n::m::ms else m::insZ n ms
def zd4:List Int->List Int
 | []=>[]
 | n::ns=>insZ n (zd4 ns)
theorem zgD (n:Int):∀ms:List Int,(insZ n ms).Perm (n::ms)
 | []=>.refl _
 | m::ms=>by
  rw[insZ];split
  .exact .refl _
  .exact ((zgD n ms).cons m).trans (.swap _ _ _)
theorem zcy:∀ns:List Int,(zd4 ns).Perm ns
 | []=>.refl _
 | n::ns=>(zgD n _).trans ((zcy ns).cons n)
theorem zkD {n:Int}:∀{ms:List Int},ms.Pairwise (·<=·)->(insZ n ms).Pairwise (·<=·)
 | [],_=>List.pairwise_singleton _ _
 | m::ms,h=>by
  rw[insZ];obtain ⟨h1,h2⟩:=List.pairwise_cons.mp h;split
  .rename_i hn;exact List.pairwise_cons.mpr ⟨fun a ha=>by
    rcases List.mem_cons.mp ha with rfl | ha
    .exact hn
    .exact Int.le_trans hn (h1 a ha),h⟩
  .rename_i hn;refine List.pairwise_cons.mpr ⟨fun a ha=>?_,zkD h2⟩;rcases List.mem_cons.mp ((zgD n ms).mem_iff.mp ha) with rfl | ha
   .omega
   .exact h1 a ha
theorem zhB:∀ns:List Int,(zd4 ns).Pairwise (·<=·)
 | []=>.nil
 | n::ns=>zkD (zhB ns)
theorem zgr:∀{xs ys:List Int},xs.Perm ys->xs.Pairwise (·<=·)->ys.Pairwise (·<=·)->xs=ys
 | [],ys,p,_,_=>by rw[List.nil_perm.mp p]
 | x::xs,[],p,_,_=>by cases List.perm_nil.mp p
 | x::xs,y::ys,p,h,k=>by
  obtain ⟨h1,h2⟩:=List.pairwise_cons.mp h;obtain ⟨k1,k2⟩:=List.pairwise_cons.mp k;have e:x=y:=by
   have hx:x∈y::ys:=p.mem_iff.mp List.mem_cons_self;have hy:y∈x::xs:=p.mem_iff.mpr List.mem_cons_self;rcases List.mem_cons.mp hx with e | hx
   .exact e
   .rcases List.mem_cons.mp hy with e | hy
    .exact e.symm
    .have:=k1 x hx
     have:=h1 y hy
     omega
  subst e;rw[zgr (List.Perm.cons_inv p) h2 k2]
def zgy (o:O):Option O:=match zsOf o with
 | some ns=>if ns.length < 64 then some (.l ((zd4 ns).map fun i=>.d (.int i))) else none
 | none=>none
theorem zk2:CallR X (.builtin "sorted") (rVs X.mg X.K (f1 zgy)):=cv1 zie fun x H Q hx__=>by
 obtain ⟨W,ox,As,z,o1,dm,hf,q⟩:=hx__;unfold zgy at hf
 cases e:zsOf ox with
 | none=>rw[e] at hf;cases hf
 | some ns=>
  rw[e] at hf;dsimp only at hf
  by_cases hz:ns.length < 64
  .rw[if_pos hz] at hf;cases hf;refine ⟨x,_,ns,rfl,o1.plain (zl0 e),hz,fun l ms hl p1 p2=>?_⟩
   have:ms=zd4 ns:=zgr (p1.trans (zcy ns).symm) p2 (zhB ns)
   subst this;refine q _ _ _ _ (.newO hl) ?_
   have:=Ow.newL (mg:=X.mg) (K:=X.K) (W:=W) hl (Dns.ofInts (P:=W) (H:=H) (zd4 ns))
   rw[List.map_map] at this;exact this
  .rw[if_neg hz] at hf;cases hf
def tyN:O->Option String
 | .d .none=>some "NoneType"
 | .d (.bool _)=>some "bool"
 | .d (.int _)=>some "int"
 | .d (.str _)=>some "str"
 | .d (.list _)=>some "list"
 | .d (.tuple _)=>some "tuple"
 | .l _=>some "list"
 | .t _=>some "tuple"
 | _=>none
def subT (T U:String):Bool:=T==U || (T=="bool"&&U=="int")
def fIsi (U:String) (o:O):Option O:=match tyN o with
 | some T=>some (.d (.bool (subT T U)))
 | none=>none
def zkp:O->Option O
 | .d (.int i)=>some (.d (.int (Builtin.Int.intBits i)))
 | _=>none
theorem zo7 {o:Expr} {A:EF} {apos cpos:Pos} (ho:VR X E o A) (h:PE X (.Call (.Attribute o "bit_length" apos) [] [] cpos) (tBM0 X.K "int" (fun x xs H Q=>∃i,x=.int i/\xs=[]/\Q (.int (Builtin.Int.intBits i)) H) (tR X.mg X.K E A))) :
  VR X E (.Call (.Attribute o "bit_length" apos) [] [] cpos) (e1 A zkp):=h.imp fun σ H Q h=>tR.mono (vr1 (X:=X) h) fun x H1 hx__=>by
  obtain ⟨W,ox,As,z,o1,dm,hf,q⟩:=hx__;unfold zkp at hf;split at hf
  .cases hf;rw[o1.int];exact ⟨rfl,_,rfl,rfl,q _ H1 W [] .refl (.d (.int _))⟩
  .cases hf
end
section
variable (mg:Str->Option Value) (K:PySem.W.Frag) (E:XK) (L:List Nat)
def Held (σ σ':St):Prop:=σ'.length=σ.length/\∀i∈L,σ'[i]? = σ[i]?
def kS (D:Ends) (σ:St) (H:Hp) (W:Addr->Prop) (f:Fp):Rt->Prop
 | .bad=>False
 | .nx ρ'=>∀σ' H' W' f',Sl mg K H' W' σ' ρ' f'->Mv (Inn f) H W (Inn f') H' W'->Held L σ σ'->D.nx σ' H'
 | .br ρ'=>∀σ' H' W' f',Sl mg K H' W' σ' ρ' f'->Mv (Inn f) H W (Inn f') H' W'->Held L σ σ'->D.bk σ' H'
 | .ct ρ'=>∀σ' H' W' f',Sl mg K H' W' σ' ρ' f'->Mv (Inn f) H W (Inn f') H' W'->Held L σ σ'->D.ct σ' H'
 | .rt o ρ'=>∀v σ' H' W' f' B,Sl mg K H' W' σ' ρ' f'->Ow mg K H' W' v o B->B.Nodup->(∀x∈B,¬Inn f' x)->Mv (Inn f) H W (fun x=>Inn f' x\/x∈B) H' W'->Held L σ σ'->D.rt v H'
 | .ex c ρ'=>∀σ' H' W' f',Sl mg K H' W' σ' ρ' f'->Mv (Inn f) H W (Inn f') H' W'->Held L σ σ'->XW mg K E c H'
def tS (G:SF):TS:=fun D σ H=>∃W ρ f,Ok mg K H W σ ρ f/\kS mg K E L D σ H W f (G ρ)
end
abbrev VS (X:Cx) (E:XK) (L:List Nat) (st:Stmt) (G:SF):Prop:=PS X st (tS X.mg X.K E L G)
abbrev VSs (X:Cx) (E:XK) (L:List Nat) (st:List Stmt) (G:SF):Prop:=PSs X st (tS X.mg X.K E L G)
theorem PS.imp {X:Cx} {e:Stmt} {t t':TS} (h:PS X e t) (i:∀D σ H,t' D σ H->t D σ H):PS X e t':=fun pins s σ H D I q=>h pins s σ H D I (i D σ H q)
theorem PSs.imp {X:Cx} {e:List Stmt} {t t':TS} (h:PSs X e t) (i:∀D σ H,t' D σ H->t D σ H):PSs X e t':=fun pins s σ H D I q=>h pins s σ H D I (i D σ H q)
theorem Held.refl {L:List Nat} {σ:St}:Held L σ σ:=⟨rfl,fun _ _=>rfl⟩
theorem Held.trans {L:List Nat} {σ σ1 σ2:St} (a:Held L σ σ1) (b:Held L σ1 σ2):Held L σ σ2:=⟨b.1.trans a.1,fun i hi=>(b.2 i hi).trans (a.2 i hi)⟩
theorem tS.from {mg:Str->Option Value} {K:PySem.W.Frag} {E:XK} {L:List Nat} {G:SF} {D:Ends} {σ σ1:St} {H H1:Hp} {W W1:Addr->Prop} {ρ1:Rho} {f f1:Fp}
  (s1:Sl mg K H1 W1 σ1 ρ1 f1) (m1:Mv (Inn f) H W (Inn f1) H1 W1) (l1:Held L σ σ1)
  (q:kS mg K E L D σ H W f (G ρ1)):tS mg K E L G D σ1 H1:=by
 refine ⟨W1,ρ1,f1,.next s1 m1 fun _ z=>z, ?_⟩
 cases a:G ρ1 with
 | bad=>rw[a] at q;exact q
 | nx ρ'=>rw[a] at q;exact fun σ' H' W' f' s m l=>q σ' H' W' f' s (m1.trans m) (l1.trans l)
 | br ρ'=>rw[a] at q;exact fun σ' H' W' f' s m l=>q σ' H' W' f' s (m1.trans m) (l1.trans l)
 | ct ρ'=>rw[a] at q;exact fun σ' H' W' f' s m l=>q σ' H' W' f' s (m1.trans m) (l1.trans l)
 | rt o ρ'=>rw[a] at q;exact fun v σ' H' W' f' B s o nd ap m l=>q v σ' H' W' f' B s o nd ap (m1.trans m) (l1.trans l)
 | ex c ρ'=>rw[a] at q;exact fun σ' H' W' f' s m l=>q σ' H' W' f' s (m1.trans m) (l1.trans l)
def sNil:SF:=fun ρ=>.nx ρ
def sSeq (S T:SF):SF:=fun ρ=>match S ρ with
 | .nx ρ'=>T ρ'
 | r=>r
section
variable {X:Cx} {E:XK} {L:List Nat}
theorem za1:VSs X E L [] sNil:=pss_nil.imp fun D σ H hx__=>by obtain ⟨W,ρ,f,ok,q⟩:=hx__;exact q σ H W f ok.s (.refl ok.sub ok.dom) .refl
theorem zak {st:Stmt} {S:SF} (h:VS X E L st S):VSs X E L [st] S:=zn5 h
theorem zaf {st:Stmt} {rest:List Stmt} {S T:SF} (h1:VS X E L st S) (h2:VSs X E L rest T):VSs X E L (st::rest) (sSeq S T):=(zmv h1 h2).imp fun D σ H hx__=>by
 obtain ⟨W,ρ,f,ok,q⟩:=hx__;refine ⟨W,ρ,f,ok, ?_⟩;unfold sSeq at q
 cases a:S ρ with
 | bad=>rw[a] at q;exact q
 | nx ρ1=>rw[a] at q;exact fun σ1 H1 W1 f1 s1 m1 l1=>tS.from s1 m1 l1 q
 | br ρ'=>rw[a] at q;exact q
 | ct ρ'=>rw[a] at q;exact q
 | rt o ρ'=>rw[a] at q;exact q
 | ex c ρ'=>rw[a] at q;exact q
def sBrk:SF:=fun ρ=>.br ρ
theorem zmI {pos:Pos}:VS X E L (.Break pos) sBrk:=ps_break.imp fun D σ H hx__=>by obtain ⟨W,ρ,f,ok,q⟩:=hx__;exact q σ H W f ok.s (.refl ok.sub ok.dom) .refl
def zbQ (A:EF):SF:=fun ρ=>match A ρ with
 | .bad=>.bad
 | .ok _ ρ' _=>.nx ρ'
 | .ex c ρ'=>.ex c ρ'
theorem zba {e:Expr} {A:EF} {pos:Pos} (he:VR X E e A) (hs:swapsWith e none pos.line X.env=pure false:=by rfl):VS X E L (.Expr e pos) (zbQ A):=(zpg he hs).imp fun D σ H hx__=>by
 obtain ⟨W,ρ,f,ok,q⟩:=hx__;refine ⟨W,ρ,f,ok, ?_⟩;unfold zbQ at q
 cases a:A ρ with
 | bad=>rw[a] at q;exact q
 | ex c ρ'=>rw[a] at q;exact fun H' W' f' s m=>q σ H' W' f' s m .refl
 | ok r ρ' k=>rw[a] at q;exact fun v H' W' f' B s r n m k=>q σ H' W' f' s (m.narrow fun x hx=>.inl hx) .refl
def sRet (take:Rho->Rv->Option (O×Rho)) (A:EF):SF:=fun ρ=>match A ρ with
 | .bad=>.bad
 | .ok r ρ' _=>match take ρ' r with
  | some (o,ρ'')=>.rt o ρ''
  | none=>.bad
 | .ex c ρ'=>.ex c ρ'
def ziC (take:Rho->Rv->Option (O×Rho)):Prop:=∀{mg:Str->Option Value} {K:PySem.W.Frag} {H:Hp} {W:Addr->Prop} {σ:St} {ρ ρ':Rho} {f:Fp} {r:Rv} {v:V} {B:List Addr} {o:O},Sl mg K H W σ ρ f->(∀x,Inn f x->W x)->RvOk mg K H W σ v r B->(∀x∈B,W x/\¬Inn f x)->take ρ r=some (o,ρ')->
  ∃W' f',Sl mg K H W' σ ρ' f'/\Gv W f W' f'/\∃B',Ow mg K H W' v o B'/\B'.Nodup/\∀x∈B',(x∈B\/Inn f x)/\W' x/\¬Inn f' x
theorem zav:ziC mov:=@zit
theorem zag:ziC coe:=fun s sb h hB e=>by
 obtain ⟨W',f',s',g,B',h1,h2,h3⟩:=zgn s sb h e;exact ⟨W',f',s',g,B',h1,h2,fun x hx=>⟨.inl (h3 x hx),(g.more x (hB x (h3 x hx)).1).resolve_left (hB x (h3 x hx)).2,fun z=>(hB x (h3 x hx)).2 (g.ours x z)⟩⟩
theorem zh7 {take:Rho->Rv->Option (O×Rho)} (ht:ziC take) {mg:Str->Option Value} {K:PySem.W.Frag} {A:EF} {σ:St} {H:Hp} {W:Addr->Prop} {ρ:Rho} {f:Fp} {R:V->Hp->Prop} (ok:Ok mg K H W σ ρ f)
  (h:match A ρ with
   | .bad=>False
   | .ex c ρ'=>∀H' W' f',Sl mg K H' W' σ ρ' f'->Mv (Inn f) H W (Inn f') H' W'->XW mg K E c H'
   | .ok r ρ1 q=>match take ρ1 r with
    | none=>False
    | some (o,ρ2)=>∀v H' W' f' As,Sl mg K H' W' σ ρ2 f'->Ow mg K H' W' v o As->As.Nodup->(∀x∈As,¬Inn f' x)->Mv (Inn f) H W (fun x=>Inn f' x\/x∈As) H' W'->R v H') :
  tR mg K E A σ H R:=by
 refine ⟨W,ρ,f,ok, ?_⟩
 cases a:A ρ with
 | bad=>rw[a] at h;exact h
 | ex c ρ'=>rw[a] at h;exact h
 | ok r ρ1 q=>
  rw[a] at h;intro v H1 W1 f1 B s1 r1 n1 m1 k1;dsimp only at h
  cases b:take ρ1 r with
  | none=>rw[b] at h;exact h.elim
  | some z=>
   obtain ⟨o,ρ2⟩:=z;rw[b] at h;obtain ⟨W2,f2,s2,g2,As,o2,nd2,in2⟩:=ht s1 (fun x hx=>m1.sub' x (.inl hx)) r1 (fun x hx=>⟨m1.sub' x (.inr hx),n1 x hx⟩) b;exact h v H1 W2 f2 As s2 o2 nd2 (fun x hx=>(in2 x hx).2.2) (m1.trans (g2.mv (fun x hx=>.inl hx) m1.sub' m1.dom' fun x hx=>⟨(in2 x hx).1.elim .inr .inl,(in2 x hx).2.1⟩))
theorem zaI {take:Rho->Rv->Option (O×Rho)} {e:Expr} {A:EF} {pos:Pos} (ht:ziC take) (he:VR X E e A):VS X E L (.Return (some e) pos) (sRet take A):=(zpF he).imp fun D σ H hx__=>by
 obtain ⟨W,ρ,f,ok,q⟩:=hx__;refine zh7 ht ok ?_;unfold sRet at q
 cases a:A ρ with
 | bad=>rw[a] at q;exact q
 | ex c ρ'=>rw[a] at q;exact fun H' W' f' s m=>q σ H' W' f' s m .refl
 | ok r ρ' k=>
  rw[a] at q;dsimp only at q ⊢
  cases b:take ρ' r with
  | none=>rw[b] at q;exact q
  | some z=>obtain ⟨o,ρ''⟩:=z;rw[b] at q;exact fun v H' W' f' As s o nd ap m=>q v σ H' W' f' As s o nd ap m .refl
def ztv:SF:=fun ρ=>.rt (.d .none) ρ
def sIf (T:TF) (S U:SF):SF:=fun ρ=>match T ρ with
 | .bad=>.bad
 | .ok b ρ' _=>if b then S ρ' else U ρ'
 | .ex c ρ'=>.ex c ρ'
theorem zcj {c:Expr} {a b:List Stmt} {T:TF} {S U:SF} {pos:Pos} (hc:VT X E c T) (ha:VSs X E L a S) (hb:VSs X E L b U):VS X E L (.If c a b pos) (sIf T S U):=(zta hc ha hb).imp fun D σ H hx__=>by
 obtain ⟨W,ρ,f,ok,q⟩:=hx__;refine ⟨W,ρ,f,ok, ?_⟩;unfold sIf at q
 cases e:T ρ with
 | bad=>rw[e] at q;exact q
 | ex c ρ'=>rw[e] at q;exact fun H' W' f' s m=>q σ H' W' f' s m .refl
 | ok b ρ1 k=>
  rw[e] at q;intro H1 W1 f1 s1 m1 k1
  cases b with
  | true=>exact tS.from s1 m1 .refl q
  | false=>exact tS.from s1 m1 .refl q
abbrev GF:=O->Rho->Option Rho
section
variable (mg:Str->Option Value) (K:PySem.W.Frag) (L:List Nat)
def tTg (G:GF):TG:=fun v σ H Q=>∃W ρ f o B ρ',Sl mg K H W σ ρ f/\Ow mg K H W v o B/\B.Nodup/\(∀x∈B,¬Inn f x)/\(∀x,Inn f x\/x∈B->W x)/\(∀x,W x->H x≠none)/\G o ρ=some ρ'/\
 ∀σ' f',Sl mg K H W σ' ρ' f'->(∀x,Inn f' x->Inn f x\/x∈B)->Held L σ σ'->Q σ' H
def tGs (G:List O->Rho->Option Rho):TGs:=fun vs σ H Q=>∃W ρ f os B ρ',Sl mg K H W σ ρ f/\Ows mg K H W vs os B/\B.Nodup/\(∀x∈B,¬Inn f x)/\(∀x,Inn f x\/x∈B->W x)/\(∀x,W x->H x≠none)/\G os ρ=some ρ'/\
 ∀σ' f',Sl mg K H W σ' ρ' f'->(∀x,Inn f' x->Inn f x\/x∈B)->Held L σ σ'->Q σ' H
end
abbrev VG (X:Cx) (L:List Nat) (e:Expr) (G:GF):Prop:=PG X e (tTg X.mg X.K L G)
abbrev VGs (X:Cx) (L:List Nat) (es:List Expr) (G:List O->Rho->Option Rho):Prop:=PGs X es (tGs X.mg X.K L G)
def gtN (i:Nat):GF:=fun o ρ=>if i < ρ.length then some (ρ.set i o) else none
theorem Sl.bind {mg:Str->Option Value} {K:PySem.W.Frag} {H:Hp} {W:Addr->Prop} {σ:St} {ρ:Rho} {f:Fp} {o:O} {v:V} {B:List Addr} (i:Nat) (s:Sl mg K H W σ ρ f) (h:Ow mg K H W v o B) (nd:B.Nodup) (ap:∀x∈B,¬Inn f x) (hi:i < ρ.length) :
  Sl mg K H W (σ.set i (some v)) (ρ.set i o) (fset f i B):=s.set hi h nd fun x hx j _ z=>ap x hx ⟨j,z⟩
theorem zgc {i:Nat} {σ:St} {x:Option V} (h:i∉L):Held L σ (σ.set i x):=⟨List.length_set,fun j hj=>List.getElem?_set_ne (fun z:i=j=>h (z ▸ hj))⟩
theorem zap {i:Nat} {x:Str} {pos:Pos} (h:PG X (.Name x pos) (zkn i)) (hL:i∉L):VG X L (.Name x pos) (gtN i):=fun pins s σ H v u Q I r hx__=>by
 obtain ⟨W,ρ,f,o,B,ρ',sl,ow,nd,ap,sb,dm,e,q⟩:=hx__;refine h pins s σ H v u Q I r ?_;unfold gtN at e
 by_cases hi:i < ρ.length
 .rw[if_pos hi] at e;cases e;exact q _ _ (sl.bind i ow nd ap hi) (fun x hx=>hx.set) (zgc hL)
 .rw[if_neg hi] at e;cases e
def zbZ:List O->Rho->Option Rho:=fun os ρ=>match os with | []=>some ρ | _=>none
def zau (G:GF) (R:List O->Rho->Option Rho):List O->Rho->Option Rho:=fun os ρ=>match os with
 | o::os=>match G o ρ with
  | some ρ1=>R os ρ1
  | none=>none
 | []=>none
theorem zby:VGs X L [] zbZ:=fun pins s σ H vs us Q I r hx__=>by
 obtain ⟨W,ρ,f,os,B,ρ',sl,ow,nd,ap,sb,dm,e,q⟩:=hx__
 cases os with
 | nil=>cases ow;cases e;exact zoR pins s σ H [] us Q I r ⟨rfl,q σ f sl (fun x hx=>.inl hx) .refl⟩
 | cons o os=>cases e
theorem zat {e:Expr} {es:List Expr} {G:GF} {R:List O->Rho->Option Rho} (h1:VG X L e G) (h2:VGs X L es R) (hs:(assignEach (e::es) X.env).map (·.2)=assign e X.env::(assignEach es X.env).map (·.2):=by rfl):VGs X L (e::es) (zau G R):=
 fun pins s σ H vs us Q I r hx__=>by
  obtain ⟨W,ρ,f,os,B,ρ',sl,ow,nd,ap,sb,dm,e,q⟩:=hx__;refine zmM h1 h2 hs pins s σ H vs us Q I r ?_;unfold zau at e
  cases ow with
  | nil=>cases e
  | @cons v o vs os A C a b=>
   dsimp only at e
   cases z:G o ρ with
   | none=>rw[z] at e;cases e
   | some ρ1=>
    rw[z] at e;obtain ⟨nA,nC,dj⟩:=List.nodup_append.mp nd;refine ⟨v,vs,rfl,W,ρ,f,o,A,ρ1,sl,a,nA,fun x hx=>ap x (List.mem_append_left _ hx),fun x hx=>sb x (hx.imp id (List.mem_append_left _)),dm,z,fun σ1 f1 sl1 in1 l1=>?_⟩;refine ⟨W,ρ1,f1,os,C,ρ',sl1,b,nC,fun x hx y=>?_,fun x hx=>?_,dm,e,fun σ2 f2 sl2 in2 l2=>q σ2 f2 sl2 (fun x hx=>?_) (l1.trans l2)⟩
    .rcases in1 x y with y | y
     .exact ap x (List.mem_append_right _ hx) y
     .exact dj x y x hx rfl
    .rcases hx with hx | hx
     .exact sb x ((in1 x hx).imp id (List.mem_append_left _))
     .exact sb x (.inr (List.mem_append_right _ hx))
    .rcases in2 x hx with hx | hx
     .exact (in1 x hx).imp id (List.mem_append_left _)
     .exact .inr (List.mem_append_right _ hx)
def gtT (R:List O->Rho->Option Rho):GF:=fun o ρ=>match els o with
 | some (false,os)=>R os ρ
 | _=>none
theorem zcz {es:List Expr} {k:Nat} {R:List O->Rho->Option Rho} {pos:Pos} (hc:X.calm=true) (h:VGs X L es R) (n:Nat) (hR:∀os ρ ρ',R os ρ=some ρ'->os.length=n)
  (hn:(assignEach es X.env).length=n:=by rfl) (hst:(assignEach es X.env).findIdx? (·.1)=none:=by rfl):VG X L (.Tuple es k pos) (gtT R):=fun pins s σ H v u Q I r hx__=>by
 obtain ⟨W,ρ,f,o,B,ρ',sl,ow,nd,ap,sb,dm,e,q⟩:=hx__;refine zqR hc h hn hst pins s σ H v u Q I r ?_;unfold gtT at e
 cases z:els o with
 | none=>rw[z] at e;cases e
 | some y=>
  obtain ⟨b,os⟩:=y;rw[z] at e
  cases b with
  | true=>cases e
  | false=>
   obtain ⟨a,vs,A,rfl,h2,h3,h4⟩:=ow.els z;exact ⟨a,vs,rfl,SqT.of h2,by rw[h3.length];exact hR os ρ ρ' e,W,ρ,f,os,A,ρ',sl,h3,nd.sublist h4,fun x hx=>ap x (h4.subset hx),fun x hx=>sb x (hx.imp id (fun z=>h4.subset z)),dm,e,fun σ' f' s' i' l'=>q σ' f' s' (fun x hx=>(i' x hx).imp id (fun z=>h4.subset z)) l'⟩
theorem zaV {os:List O} {ρ ρ':Rho} (h:zbZ os ρ=some ρ'):os.length=0:=by
 unfold zbZ at h;split at h
 .rfl
 .cases h
theorem zaj {G:GF} {R:List O->Rho->Option Rho} {n:Nat} (hR:∀os ρ ρ',R os ρ=some ρ'->os.length=n):∀os ρ ρ',zau G R os ρ=some ρ'->os.length=n+1:=fun os ρ ρ' h=>by
 unfold zau at h;split at h
 .split at h
  .rw[List.length_cons,hR _ _ _ h]
  .cases h
 .cases h
def sAsg (take:Rho->Rv->Option (O×Rho)) (A:EF) (G:GF):SF:=fun ρ=>match A ρ with
 | .bad=>.bad
 | .ok r ρ' _=>match take ρ' r with
  | some (o,ρ1)=>match G o ρ1 with
   | some ρ2=>.nx ρ2
   | none=>.bad
  | none=>.bad
 | .ex c ρ'=>.ex c ρ'
theorem zlI {take:Rho->Rv->Option (O×Rho)} (ht:ziC take) {A:EF} {G:GF} {D:Ends} {σ:St} {H:Hp} (h:tS X.mg X.K E L (sAsg take A G) D σ H):tAsg (tR X.mg X.K E A) (tTg X.mg X.K L G) D σ H:=by
 obtain ⟨W,ρ,f,ok,q⟩:=h;refine zh7 ht ok ?_;unfold sAsg at q
 cases a:A ρ with
 | bad=>rw[a] at q;exact q
 | ex c ρ'=>rw[a] at q;exact fun H' W' f' s m=>q σ H' W' f' s m .refl
 | ok r ρ' k=>
  rw[a] at q;dsimp only at q ⊢
  cases b:take ρ' r with
  | none=>rw[b] at q;exact q
  | some z=>
   obtain ⟨o,ρ''⟩:=z;rw[b] at q;dsimp only at q ⊢
   cases c:G o ρ'' with
   | none=>rw[c] at q;exact False.elim q
   | some ρ2=>
    rw[c] at q;exact fun v H' W' f' As s ow nd ap m=>⟨W',ρ'',f',o,As,ρ2,s,ow,nd,ap,m.sub',m.dom',c,fun σ' f2 s2 i2 l2=>q σ' H' W' f2 s2 (m.narrow i2) l2⟩
theorem zdI {take:Rho->Rv->Option (O×Rho)} {tg e:Expr} {A:EF} {G:GF} {pos:Pos} (ht:ziC take) (he:VR X E e A) (hg:VG X L tg G) (hs:swapsWithSole [tg] e pos.line X.env=pure false:=by rfl) (hw:swappedStores [tg] e X.env=pure none:=by rfl)
  (h1:(assignEach [tg] X.env).map (·.2)=[assign tg X.env]:=by rfl):VS X E L (.Assign [tg] e pos) (sAsg take A G):=(znv he hg hs hw h1).imp fun D σ H h=>zlI ht h
theorem zaC {take:Rho->Rv->Option (O×Rho)} {i:Nat} {x:Str} {e:Expr} {A:EF} {pos pos':Pos} (ht:ziC take) (hN:X.N.Nodup) (hi:X.N[i]? = some x) (hx:Loc X.env.scope x) (hL:i∉L) (he:VR X E e A) (hs:swapsWith e (some (.Name x pos')) pos.line X.env=pure false:=by rfl) (hf:X.fn x=true\/X.env.scope.names.lookup x=some .local:=by first | exact .inl rfl | exact .inr rfl | assumption) :
  VS X E L (.Assign [.Name x pos'] e pos) (sAsg take A (gtN i)):=(zqc hN hi hx he hs hf).imp fun D σ H h=>tR.mono (zlI ht h) fun v H1 hx__=>by
 obtain ⟨W,ρ,f,o,B,ρ',sl,ow,nd,ap,sb,dm,e,q⟩:=hx__;unfold gtN at e
 by_cases hi:i < ρ.length
 .rw[if_pos hi] at e;cases e;exact q _ _ (sl.bind i ow nd ap hi) (fun x hx=>hx.set) (zgc hL)
 .rw[if_neg hi] at e;cases e
def slI (ρ:Rho) (i:Nat):Option Int:=match ρ[i]? with
 | some o=>decI o
 | none=>none
theorem zp9 {ρ:Rho} {i:Nat} {a:Int} (h:slI ρ i=some a):ρ[i]? = some (.d (.int a)):=by
 unfold slI at h
 cases e:ρ[i]? with
 | none=>rw[e] at h;cases h
 | some o=>
  rw[e] at h;dsimp only at h;unfold decI at h;split at h
  .cases h;rfl
  .cases h
def sAug (i:Nat) (A:EF) (g:Int->Int->Int):SF:=fun ρ=>match slI ρ i with
 | some a=>match eSc decI A ρ with
  | .bad=>.bad
  | .ex c ρ'=>.ex c ρ'
  | .ok b ρ' _=>if i < ρ'.length then .nx (ρ'.set i (.d (.int (g a b)))) else .bad
 | none=>.bad
theorem zrG {i:Nat} {x:Str} {e:Expr} {A:EF} {op:Operator} {g:Int->Int->Int} {pos pos':Pos} (hN:X.N.Nodup) (hi:X.N[i]? = some x) (hx:Loc X.env.scope x) (hL:i∉L) (he:VR X E e A) (ho:PIp X op (ipI g)) (hf:X.fn x=true\/X.env.scope.names.lookup x=some .local:=by first | exact .inl rfl | exact .inr rfl | assumption) :
  VS X E L (.AugAssign (.Name x pos') op e pos) (sAug i A g):=(zrC hN hi hx he ho hf).imp fun D σ H hx__=>by
 obtain ⟨W,ρ,f,ok,q⟩:=hx__;unfold sAug at q
 cases ea:slI ρ i with
 | some a=>
  rw[ea] at q;dsimp only at q;rcases ok.s.sl i _ (zp9 ea) with ⟨z,_⟩ | ⟨v,h1,h2⟩
  .cases z
  .refine ⟨v,h1,tR.mono (toI (E:=E) (X:=X) (B:=A) (Q:=fun b H1=>∃W' ρ' f',Sl X.mg X.K H1 W' σ ρ' f'/\Mv (Inn f) H W (Inn f') H1 W'/\i < ρ'.length/\∀σ' H' W' f',Sl X.mg X.K H' W' σ' (ρ'.set i (.d (.int (g a b)))) f'->Mv (Inn f) H W (Inn f') H' W'->Held L σ σ'->D.nx σ' H') ⟨W,ρ,f,ok, ?_⟩) fun u H1 ⟨b,e,W',ρ',f',s1,m1,hl,q⟩=>⟨a,b,h2.int,e, ?_⟩⟩
   .cases c:eSc decI A ρ with
    | bad=>rw[c] at q;exact q
    | ex c ρ'=>rw[c] at q;exact fun H' W' f' s m=>q σ H' W' f' s m .refl
    | ok b ρ' k=>
     rw[c] at q;dsimp only at q;intro H' W' f' s m k
     by_cases hl:i < ρ'.length
     .rw[if_pos hl] at q;exact ⟨W',ρ',f',s,m,hl,q⟩
     .rw[if_neg hl] at q;exact False.elim q
   .exact q _ _ W' _ (s1.bind i (B:=[]) (.d (.int _)) List.nodup_nil (fun x z=>nomatch z) hl) (m1.narrow fun x hx=>hx.set.resolve_right fun z=>nomatch z) (zgc hL)
 | none=>rw[ea] at q;exact False.elim q
end
section
variable {mg:Str->Option Value} {K:PySem.W.Frag} {H:Hp} {W:Addr->Prop} {σ:St} {ρ:Rho} {f:Fp}
theorem Sl.put {i:Nat} {p:List Nat} {oi:O} {os os':List O} {a:Addr} {u:V} {vs':List V} {A:List Addr} (s:Sl mg K H W σ ρ f) (sb:∀x,Inn f x->W x) (hi:ρ[i]? = some oi) (hu:σ[i]? = some (some u)) (hv:VAt H p u (.ref a)) (hs:sub p oi=some (.l os))
  (hA:∀x∈A,¬Inn f x)
  (h:∀vs B,Ows mg K H W vs os B->H a=some (.lst vs)->B.Nodup->a∉B->(∀x∈B,Inn f x)->Inn f a->∃C,Ows mg K (upd H a (.lst vs')) W vs' os' C/\C.Nodup/\a∉C/\∀x∈C,x∈B\/x∈A) :
  Inn f a/\∃f',Sl mg K (upd H a (.lst vs')) W σ (ρ.set i (put p (.l os') oi)) f'/\∀x,Inn f' x->Inn f x\/x∈A:=by
 rcases s.sl i oi hi with ⟨rfl,_⟩ | ⟨u',h1,ow⟩
 .cases p<;>cases hs
 .rw[hu] at h1;cases h1;have hin:a∈f i:=by
   obtain ⟨v',C,k1,k2,k3⟩:=ow.sub hs
   cases k1.inj hv
   cases k2 with
   | l _ _=>exact k3.subset List.mem_cons_self
  have ha:W a:=sb a ⟨i,hin⟩;obtain ⟨C,c1,c2,c3,_⟩:=ow.put (s.fam.nd i) hs hv ha (fun vs B x1 x2 x3 x4 x5=>h vs B x1 x2 x3 x4 (fun x hx=>⟨i,x5 x hx⟩) ⟨i,hin⟩) (fun x hx z=>hA x hx ⟨i,z⟩);have m:DMv H W (upd H a (.lst vs')) W:=fun c ob hc nc=>⟨by rw[zaJ (fun z=>nc (by rw[z];exact ha))];exact hc,nc⟩
  refine ⟨⟨i,hin⟩,fset f i C,⟨fun j o e=>?_,fun j hj=>?_,by rw[List.length_set];exact s.len,s.fam.set c2 fun x hx j hj z=>?_⟩,fun x hx=>?_⟩
  .by_cases q:j=i
   .subst q;have hl:j < ρ.length:=(List.getElem?_eq_some_iff.mp hi).1;rw[List.getElem?_set_self hl] at e;cases e;exact .inr ⟨u,hu,by rw[zbt];exact c1⟩
   .rw[List.getElem?_set_ne (Ne.symm q)] at e;rw[zbU q];exact (s.sl j o e).imp id fun ⟨v,g1,g2⟩=>⟨v,g1,g2.on m fun x hx=>zaJ fun z=>s.fam.ap j i q x hx (z ▸ hin)⟩
  .rw[List.length_set] at hj;have hl:i < ρ.length:=(List.getElem?_eq_some_iff.mp hi).1;rw[zbU (by omega)];exact s.no j hj
  .rcases c3 x hx with y | y
   .exact s.fam.ap i j (Ne.symm hj) x y z
   .exact hA x y ⟨j,z⟩
  .rcases hx.set with hx | hx
   .exact .inl hx
   .exact (c3 x hx).imp (fun z=>⟨i,z⟩) id
end
def zfa (ρ:Rho) (r:Rv) (h:List O->Option (List O)):Option Rho:=match r with
 | .own (.l os)=>(h os).map fun _=>ρ
 | .own _=>none
 | .at i p=>match ρ[i]? with
  | some oi=>match sub p oi with
   | some (.l os)=>match h os with
    | some os'=>some (ρ.set i (put p (.l os') oi))
    | none=>none
   | _=>none
  | none=>none
section
variable {mg:Str->Option Value} {K:PySem.W.Frag} {H:Hp} {W:Addr->Prop} {σ:St} {ρ ρ':Rho} {f:Fp}
theorem zjy {r:Rv} {v:V} {C A:List Addr} {g:List O->Option (List O)} {hv:List V->List V} (s:Sl mg K H W σ ρ f) (sb:∀x,Inn f x\/x∈C\/x∈A->W x) (dm:∀x,W x->H x≠none) (hr:RvOk mg K H W σ v r C) (hC:∀x∈C,¬Inn f x) (hA:∀x∈A,¬Inn f x) (hCA:∀x∈C,x∉A) (e:zfa ρ r g=some ρ')
  (h:∀(H':Hp) vs os os' B,g os=some os'->DMv H W H' W->(∀x∈B,H' x=H x)->(∀x∈A,H' x=H x)->Ows mg K H W vs os B->B.Nodup->(∀x∈A,x∉B)->∃D,Ows mg K H' W (hv vs) os' D/\D.Nodup/\∀x∈D,x∈B\/x∈A) :
  ∃a vs os os',v=.ref a/\H a=some (.lst vs)/\g os=some os'/\vs.length=os.length/\(Inn f a\/a∈C)/\∃f',Sl mg K (upd H a (.lst (hv vs))) W σ ρ' f'/\∀x,Inn f' x->Inn f x\/x∈A:=by
 cases r with
 | own o=>
  cases o with
  | l os=>
   rw[zfa] at e
   cases e1:g os with
   | none=>rw[e1] at e;cases e
   | some os'=>
    rw[e1] at e;cases e
    cases hr.1 with
    | @l a vs _ As h1 h2=>
     have hw:W a:=sb a (.inr (.inl List.mem_cons_self));refine ⟨a,vs,os,os',rfl,h1,e1,h2.length,.inr List.mem_cons_self,f,s.on (fun c ob hc nc=>⟨by rw[zaJ (fun z=>nc (by rw[z];exact hw))];exact hc,nc⟩) fun x hx=>zaJ fun z=>hC a List.mem_cons_self (z ▸ hx),fun x hx=>.inl hx⟩
  | _=>cases e
 | «at» i p=>
  rw[zfa] at e
  cases e1:ρ[i]? with
  | none=>rw[e1] at e;cases e
  | some oi=>
   rw[e1] at e;dsimp only at e
   cases e2:sub p oi with
   | none=>rw[e2] at e;cases e
   | some n=>
    rw[e2] at e
    cases n with
    | l os=>
     dsimp only at e
     cases e3:g os with
     | none=>rw[e3] at e;cases e
     | some os'=>
      rw[e3] at e;cases e;obtain ⟨_,u,h1,h2⟩:=hr;rcases s.sl i oi e1 with ⟨rfl,_⟩ | ⟨u',g1,ow⟩
      .cases p<;>cases e2
      .rw[h1] at g1;cases g1;obtain ⟨w,D,k1,k2,k3⟩:=ow.sub e2
       cases k1.inj h2
       cases k2 with
       | @l a vs _ As hl ht=>
        have sb':∀x,Inn f x->W x:=fun x hx=>sb x (.inl hx)
        have hw:W a:=sb' a ⟨i,k3.subset List.mem_cons_self⟩;obtain ⟨hin,f',p1,p2⟩:=s.put (os':=os') (vs':=hv vs) (A:=A) sb' e1 h1 h2 e2 hA fun vs2 B o2 hvs nd na inB ina=>by
         rw[hl] at hvs;cases hvs;obtain ⟨D',d1,d2,d3⟩:=h (upd H a (.lst (hv vs))) vs os os' B e3 (fun c ob hc nc=>⟨by rw[zaJ (fun z=>nc (by rw[z];exact hw))];exact hc,nc⟩) (fun x hx=>zaJ fun z=>na (z ▸ hx)) (fun x hx=>zaJ fun z=>hA x hx (z ▸ ina)) o2 nd fun x hx z=>hA x hx (inB x z)
         exact ⟨D',d1,d2,fun z=>(d3 a z).elim na fun y=>hA a y ina,d3⟩
        exact ⟨a,vs,os,os',rfl,hl,e3,ht.length,.inl hin,f',p1,p2⟩
    | _=>cases e
end
section
variable {X:Cx} {E:XK} {L:List Nat}
theorem twoT {mg:Str->Option Value} {K:PySem.W.Frag} {σ:St} {H:Hp} {A B:EF} {T:V->Hp->Prop} {R:V->V->Hp->Prop} {W:Addr->Prop} {ρ:Rho} {f:Fp} (ok:Ok mg K H W σ ρ f)
  (h:match A ρ with
   | .bad=>False
   | .ex c ρ'=>∀H' W' f',Sl mg K H' W' σ ρ' f'->Mv (Inn f) H W (Inn f') H' W'->XW mg K E c H'
   | .ok ra ρ1 q1=>(∀v H' W' f' C,Sl mg K H' W' σ ρ1 f'->RvOk mg K H' W' σ v ra C->T v H')/\match B ρ1 with
    | .bad=>False
    | .ex c ρ'=>∀H' W' f',Sl mg K H' W' σ ρ' f'->Mv (Inn f) H W (Inn f') H' W'->XW mg K E c H'
    | .ok rb ρ2 q2=>pok ρ1 q2 ra=true/\∀v u H' W' f' C D,Sl mg K H' W' σ ρ2 f'->RvOk mg K H' W' σ v ra C->RvOk mg K H' W' σ u rb D->(∀x∈C,¬Inn f' x)->(∀x∈D,¬Inn f' x)->(∀x∈C,x∉D)->
      Mv (Inn f) H W (fun x=>Inn f' x\/x∈C\/x∈D) H' W'->R v u H') :
  tR mg K E A σ H fun x H1=>T x H1/\tR mg K E B σ H1 fun y H2=>R x y H2:=by
 refine ⟨W,ρ,f,ok, ?_⟩
 cases a:A ρ with
 | bad=>rw[a] at h;exact h
 | ex c ρ'=>rw[a] at h;exact h
 | ok ra ρ1 q1=>
  rw[a] at h;intro v H1 W1 f1 C s1 r1 n1 m1 k1;have ok1:Ok mg K H1 W1 σ ρ1 f1:=⟨s1,fun x hx=>m1.sub' x (.inl hx),m1.dom'⟩;refine ⟨h.1 v H1 W1 f1 C s1 r1,W1,ρ1,f1,ok1, ?_⟩;have h:=h.2;have hC:∀x∈C,W1 x/\¬Inn f1 x:=fun x hx=>⟨m1.sub' x (.inr hx),n1 x hx⟩
  cases b:B ρ1 with
  | bad=>rw[b] at h;exact h
  | ex c ρ'=>
   rw[b] at h;exact fun H2 W2 f2 s2 m2=>h H2 W2 f2 s2 (m1.trans (m2.wide (fun x hx=>.inl hx) m1.sub'))
  | ok rb ρ2 q2=>
   rw[b] at h;obtain ⟨hp,h⟩:=h;intro u H2 W2 f2 D s2 r2 n2 m2 k2;have m2':Mv (fun x=>Inn f1 x\/x∈C) H1 W1 (fun x=>Inn f2 x\/x∈C\/x∈D) H2 W2:=
    ⟨fun b o e n=>m2.same b o e fun z=>n (.inl z),m2.less,fun x w=>(m2.more x w).imp .inl id,fun x w=>by
     rcases w with w | w | w
     .exact (m2.ours x (.inl w)).imp .inl id
     .exact .inl (.inr w)
     .exact (m2.ours x (.inr w)).imp .inl id,m1.sub',m2.dom,fun x w=>by
     rcases w with w | w | w
     .exact m2.sub' x (.inl w)
     .exact (m2.hand (hC x w).1 (hC x w).2).1
     .exact m2.sub' x (.inr w),m2.dom'⟩
   exact h v u H2 W2 f2 C D s2 (r1.on s1 hC m2 k2 hp) r2 (fun x hx z=>m2.apart (hC x hx).1 (hC x hx).2 (.inl z)) n2 (fun x hx z=>m2.apart (hC x hx).1 (hC x hx).2 (.inr z)) (m1.trans m2')
def isL (ρ:Rho) (r:Rv):Bool:=match vn ρ r with
 | some o=>match els o with
  | some (true,_)=>true
  | _=>false
 | none=>false
theorem zpA {mg:Str->Option Value} {K:PySem.W.Frag} {H:Hp} {W:Addr->Prop} {σ:St} {ρ:Rho} {f:Fp} {v:V} {r:Rv} {B:List Addr} (h:isL ρ r=true) (s:Sl mg K H W σ ρ f) (hr:RvOk mg K H W σ v r B):tyV K "list" v H:=by
 unfold isL at h
 cases e:vn ρ r with
 | none=>rw[e] at h;cases h
 | some o=>
  rw[e] at h;dsimp only at h;obtain ⟨a1,a2⟩:=zd0 e;obtain ⟨C,ow,_⟩:=s.vw hr a1 a2
  cases e2:els o with
  | none=>rw[e2] at h;cases h
  | some z=>
   obtain ⟨k,os⟩:=z;rw[e2] at h
   cases k with
   | false=>cases h
   | true=>
    obtain ⟨a,vs,A,rfl,h2,h3,_⟩:=ow.els e2;exact .inl ⟨rfl,vs,SqL.of h2⟩
def eApp (C A:EF):EF:=fun ρ=>(C ρ).bind fun rc ρ1 q1=>if isL ρ1 rc then (A ρ1).bind fun ra ρ2 q2=>if pok ρ1 q2 rc then match coe ρ2 ra with
  | some (o,ρ3)=>match zfa ρ3 rc fun os=>if os.length < sizeLine then some (os++[o]) else none with
   | some ρ4=>.ok (.own (.d .none)) ρ4 false
   | none=>.bad
  | none=>.bad
 else .bad else .bad
theorem zrD {c e:Expr} {C A:EF} {apos cpos:Pos} (hc:VR X E c C) (he:VR X E e A) (h:PE X (.Call (.Attribute c "append" apos) [e] [] cpos) (tBM X.K "list" zjv (tR X.mg X.K E C) (zml (tR X.mg X.K E A) tNil))):VR X E (.Call (.Attribute c "append" apos) [e] [] cpos) (eApp C A):=h.imp fun σ H Q hx__=>by
 obtain ⟨W,ρ,f,ok,q⟩:=hx__;refine twoT (T:=tyV X.K "list") ok ?_;unfold eApp at q
 cases a:C ρ with
 | bad=>rw[a] at q;exact q
 | ex c ρ'=>rw[a] at q;exact q
 | ok rc ρ1 q1=>
  rw[a] at q;dsimp only[Re.bind] at q ⊢
  by_cases hl:isL ρ1 rc=true
  .rw[if_pos hl] at q;refine ⟨fun v H' W' f' C s r=>zpA hl s r, ?_⟩
   cases b:A ρ1 with
   | bad=>rw[b] at q;exact q
   | ex c ρ'=>rw[b] at q;exact q
   | ok ra ρ2 q2=>
    rw[b] at q;dsimp only at q ⊢
    by_cases hp:pok ρ1 q2 rc=true
    .rw[if_pos hp] at q;refine ⟨hp,fun v u H' W' f' C D s r1 r2 n1 n2 n3 m=>?_⟩
     cases e1:coe ρ2 ra with
     | none=>rw[e1] at q;exact False.elim q
     | some z=>
      obtain ⟨o,ρ3⟩:=z;rw[e1] at q;dsimp only at q
      cases e2:zfa ρ3 rc fun os=>if os.length < sizeLine then some (os++[o]) else none with
      | none=>rw[e2] at q;exact False.elim q
      | some ρ4=>
       rw[e2] at q;obtain ⟨W3,f3,s3,g3,B,ow,nd,inB⟩:=zgn s (fun x hx=>m.sub' x (.inl hx)) r2 e1;have keep:∀x,(x∈C\/x∈B)->W3 x/\¬Inn f3 x:=fun x hx=>by
        have hx':x∈C\/x∈D:=hx.imp id (inB x);have nf:¬Inn f' x:=hx'.elim (n1 x) (n2 x);exact ⟨(g3.more x (m.sub' x (.inr hx'))).resolve_left nf,fun z=>nf (g3.ours x z)⟩
       obtain ⟨p,vs,os,os',rfl,h1,h2,h3,h4,f4,s4,in4⟩:=zjy (hv:=fun vs=>vs++[u]) s3 (fun x hx=>hx.elim (g3.sub x) fun hx=>(keep x hx).1) (fun x hx=>m.dom' x (g3.less x hx)) (r1.weak g3.less) (fun x hx=>(keep x (.inl hx)).2) (fun x hx=>(keep x (.inr hx)).2) (fun x hx z=>n3 x hx (inB x z)) e2 (fun H2 vs os os' B' ho dm hB' hA ows ndB dj=>by
        by_cases hz:os.length < sizeLine
        .rw[if_pos hz] at ho;cases ho;refine ⟨B'++(B++[]),Ows.app (ows.on dm hB') (.cons (ow.on dm hA) .nil), ?_,fun x hx=>?_⟩
         .rw[List.append_nil];exact List.nodup_append.mpr ⟨ndB,nd,fun x hx y hy z=>dj y hy (z ▸ hx)⟩
         .rw[List.append_nil] at hx;exact List.mem_append.mp hx
        .rw[if_neg hz] at ho;cases ho)
       have hlen:vs.length < sizeLine:=by
        by_cases hz:os.length < sizeLine
        .rw[h3];exact hz
        .rw[if_neg hz] at h2;cases h2
       refine ⟨p,vs,u,rfl,rfl,h1,hlen,q .non _ W3 f4 [] s4 ⟨.d .non,List.nodup_nil⟩ (fun x z=>nomatch z) ?_ (fun z=>nomatch z)⟩;have mg3:Mv (fun x=>Inn f' x\/x∈C\/x∈D) H' W' (fun x=>Inn f3 x\/x∈C\/x∈B) H' W3:=
        ⟨fun _ _ h _=>h,fun x h=>.inl (g3.less x h),fun x h=>(g3.more x h).imp .inl id,fun x h=>.inl (h.imp (g3.ours x) fun z=>z.imp id (inB x)),m.sub',m.dom',fun x h=>h.elim (g3.sub x) fun z=>(keep x z).1,fun x h=>m.dom' x (g3.less x h)⟩
       refine ((m.trans mg3).trans (Mv.put (o:=.lst (vs++[u])) mg3.sub' mg3.dom' (h4.imp id .inl))).narrow fun x hx=>?_
       exact (in4 x (hx.resolve_right fun z=>nomatch z)).imp id .inr
    .rw[if_neg hp] at q;exact False.elim q
  .rw[if_neg hl] at q;exact False.elim q
def sSub (take:Rho->Rv->Option (O×Rho)) (A C B:EF):SF:=fun ρ=>match A ρ with
 | .bad=>.bad
 | .ex c ρ'=>.ex c ρ'
 | .ok r ρ' _=>match take ρ' r with
  | none=>.bad
  | some (o,ρ1)=>match C ρ1 with
   | .bad=>.bad
   | .ex c ρ'=>.ex c ρ'
   | .ok rc ρ2 _=>match eSc decI B ρ2 with
    | .bad=>.bad
    | .ex c ρ'=>.ex c ρ'
    | .ok k ρ3 q3=>if pok ρ2 q3 rc then match zfa ρ3 rc fun os=>(ixN os.length k).map fun j=>os.set j o with
      | some ρ4=>.nx ρ4
      | none=>.bad
     else .bad
theorem Ows.setAt {mg:Str->Option Value} {K:PySem.W.Frag} {H:Hp} {W:Addr->Prop}:∀{vs:List V} {os:List O} {As:List Addr} {k:Nat} {v:V} {o:O} {A:List Addr},Ows mg K H W vs os As->Ow mg K H W v o A->As.Nodup->A.Nodup->(∀x∈A,x∉As)->∃D,Ows mg K H W (vs.set k v) (os.set k o) D/\D.Nodup/\∀x∈D,x∈As\/x∈A
 | _,_,_,k,_,_,_,.nil,_,_,_,_=>⟨[],.nil,List.nodup_nil,fun _ z=>nomatch z⟩
 | _,_,_,0,v,o,A,.cons (A:=B) (B:=C) a b,h,nd,nA,dj=>by
  obtain ⟨n1,n2,n3⟩:=List.nodup_append.mp nd;refine ⟨A++C,.cons h b,List.nodup_append.mpr ⟨nA,n2,fun x hx y hy z=>dj x hx (List.mem_append_right _ (z ▸ hy))⟩,fun x hx=>?_⟩;exact (List.mem_append.mp hx).elim .inr fun z=>.inl (List.mem_append_right _ z)
 | _,_,_,k+1,v,o,A,.cons (A:=B) (B:=C) a b,h,nd,nA,dj=>by
  obtain ⟨n1,n2,n3⟩:=List.nodup_append.mp nd;obtain ⟨D,d1,d2,d3⟩:=Ows.setAt (k:=k) b h n2 nA fun x hx z=>dj x hx (List.mem_append_right _ z)
  refine ⟨B++D,.cons a d1,List.nodup_append.mpr ⟨n1,d2,fun x hx y hy z=>?_⟩,fun x hx=>?_⟩
  .subst z;rcases d3 x hy with q | q
   .exact n3 x hx x q rfl
   .exact dj x q (List.mem_append_left _ hx)
  .rcases List.mem_append.mp hx with q | q
   .exact .inl (List.mem_append_left _ q)
   .exact (d3 x q).imp (List.mem_append_right _) id
theorem zim {take:Rho->Rv->Option (O×Rho)} {c b e:Expr} {A C B:EF} {pos pos':Pos} (ht:ziC take) (he:VR X E e A) (hc:VR X E c C) (hb:VR X E b B)
  (hs:swapsWithSole [.Subscript c b pos'] e pos.line X.env=pure false:=by rfl) (hw:swappedStores [.Subscript c b pos'] e X.env=pure none:=by rfl)
  (h1:(assignEach [.Subscript c b pos'] X.env).map (·.2)=[assign (.Subscript c b pos') X.env]:=by rfl)
  (ha:∀v,assign (.Subscript c b pos') X.env v=(do
   let ov <-holding [v] (eval c X.env)
   let iv <-holding [v,ov] (eval b X.env)
   standAt pos'
   holding [v,ov,iv] (setItem ov iv v)
   release [v,ov,iv] []):=by intro _;rfl):VS X E L (.Assign [.Subscript c b pos'] e pos) (sSub take A C B):=(znv he (zrn hc hb zmF ha) hs hw h1).imp fun D σ H hx__=>by
 obtain ⟨W,ρ,f,ok,q⟩:=hx__;refine zh7 ht ok ?_;unfold sSub at q
 cases a:A ρ with
 | bad=>rw[a] at q;exact q
 | ex c ρ'=>rw[a] at q;exact fun H' W' f' s m=>q σ H' W' f' s m .refl
 | ok r ρ' k0=>
  rw[a] at q;dsimp only at q ⊢
  cases b0:take ρ' r with
  | none=>rw[b0] at q;exact q
  | some z=>
   obtain ⟨o,ρ1⟩:=z;rw[b0] at q;dsimp only at q ⊢;intro v H1 W1 f1 As s1 ow nd ap m1;have ok1:Ok X.mg X.K H1 W1 σ ρ1 f1:=⟨s1,fun x hx=>m1.sub' x (.inl hx),m1.dom'⟩;have hAs:∀x∈As,W1 x/\¬Inn f1 x:=fun x hx=>⟨m1.sub' x (.inr hx),ap x hx⟩
   have wid:∀{H':Hp} {W':Addr->Prop} {f':Fp},Mv (Inn f1) H1 W1 (Inn f') H' W'->Mv (Inn f) H W (Inn f') H' W':=fun m=>m1.trans (m.wide (fun x hx=>.inl hx) m1.sub')
   refine tR.mono (twoG (G:=eSc decI B) (R:=fun x k H2=>zpy x (.int k) v H2 fun H3=>D.nx σ H3) ok1 ?_) fun x H2 h2=>tR.mono (toI h2) fun y H3 ⟨k,e,h3⟩=>by rw[e];exact h3
   cases c0:C ρ1 with
   | bad=>rw[c0] at q;exact q
   | ex c ρ'=>rw[c0] at q;exact fun H' W' f' s m=>q σ H' W' f' s (wid m) .refl
   | ok rc ρ2 q2=>
    rw[c0] at q;dsimp only at q ⊢
    cases d0:eSc decI B ρ2 with
    | bad=>rw[d0] at q;exact q
    | ex c ρ'=>rw[d0] at q;exact fun H' W' f' s m=>q σ H' W' f' s (wid m) .refl
    | ok k ρ3 q3=>
     rw[d0] at q;dsimp only at q ⊢
     by_cases hp:pok ρ2 q3 rc=true
     .rw[if_pos hp] at q;refine ⟨hp,fun u H2 W2 f2 Cc s2 r2 n2 m2 _=>?_⟩
      cases e2:zfa ρ3 rc fun os=>(ixN os.length k).map fun j=>os.set j o with
      | none=>rw[e2] at q;exact False.elim q
      | some ρ4=>
       rw[e2] at q;have hAs2:∀x∈As,W2 x/\H2 x=H1 x:=fun x hx=>m2.hand (hAs x hx).1 (hAs x hx).2
       have ap2:∀x∈As,¬(Inn f2 x\/x∈Cc):=fun x hx=>m2.apart (hAs x hx).1 (hAs x hx).2
       have ow2:Ow X.mg X.K H2 W2 v o As:=ow.on m2.d fun x hx=>(hAs2 x hx).2
       have pick:∀{os os':List O},(ixN os.length k).map (fun j=>os.set j o)=some os'->∃j,ixN os.length k=some j/\os'=os.set j o:=fun {os os'} h=>by
        cases e:ixN os.length k with
        | none=>rw[e] at h;cases h
        | some j=>rw[e] at h;cases h;exact ⟨j,rfl,rfl⟩
       obtain ⟨p,vs,os,os',rfl,h1,h2,h3,h4,f4,s4,in4⟩:=zjy (A:=As) (hv:=fun vs=>vs.set ((ixN vs.length k).getD 0) v) s2 (fun x hx=>hx.elim (fun z=>m2.sub' x (.inl z)) fun hx=>hx.elim (fun z=>m2.sub' x (.inr z)) fun z=>(hAs2 x z).1) m2.dom' r2 n2 (fun x hx z=>ap2 x hx (.inl z)) (fun x hx z=>ap2 x z (.inr hx)) e2 (fun H3 vs os os' B' ho dm hB' hA ows ndB dj=>by
        obtain ⟨j,e,rfl⟩:=pick ho;rw[ows.length,e];exact Ows.setAt (ows.on dm hB') (ow2.on dm hA) ndB nd dj)
       obtain ⟨j,e,rfl⟩:=pick h2;rw[h3,e] at s4;refine ⟨p,vs,k,j,rfl,rfl,h1,by rw[h3];exact e,q σ _ W2 f4 s4 ?_ .refl⟩;have mw:Mv (fun x=>Inn f1 x\/x∈As) H1 W1 (fun x=>(Inn f2 x\/x∈Cc)\/x∈As) H2 W2:=
        ⟨fun b o e n=>m2.same b o e fun z=>n (.inl z),m2.less,fun x w=>(m2.more x w).imp .inl id,fun x w=>w.elim (fun w=>(m2.ours x w).imp .inl id) fun w=>.inl (.inr w),m1.sub',m2.dom,fun x w=>w.elim (m2.sub' x) fun w=>(hAs2 x w).1,m2.dom'⟩
       exact ((m1.trans mw).trans (Mv.put (o:=.lst (vs.set j v)) mw.sub' mw.dom' (.inl h4))).narrow fun x hx=>(in4 x hx).imp .inl id
     .rw[if_neg hp] at q;exact False.elim q
end
def Aft (mg:Str->Option Value) (K:PySem.W.Frag) (E:XK) (L:List Nat) (D:Ends) (σ:St) (H:Hp) (W:Addr->Prop) (f:Fp):Rt->Prop
 | .bad=>False
 | .nx ρ'=>∀σ' H' W' f',Sl mg K H' W' σ' ρ' f'->Mv (Inn f) H W (Inn f') H' W'->Held L σ σ'->D.nx σ' H'
 | .br ρ'=>∀σ' H' W' f',Sl mg K H' W' σ' ρ' f'->Mv (Inn f) H W (Inn f') H' W'->Held L σ σ'->D.bk σ' H'
 | .ct ρ'=>∀σ' H' W' f',Sl mg K H' W' σ' ρ' f'->Mv (Inn f) H W (Inn f') H' W'->Held L σ σ'->D.ct σ' H'
 | .rt o ρ'=>∀v σ' H' W' f' B,Sl mg K H' W' σ' ρ' f'->Ow mg K H' W' v o B->B.Nodup->(∀x∈B,¬Inn f' x)->Mv (Inn f) H W (fun x=>Inn f' x\/x∈B) H' W'->Held L σ σ'->D.rt v H'
 | .ex c ρ'=>∀σ' H' W' f',Sl mg K H' W' σ' ρ' f'->Mv (Inn f) H W (Inn f') H' W'->Held L σ σ'->XW mg K E c H'
def forF (G:GF) (S:SF):List O->Rho->Rt
 | [],ρ=>.nx ρ
 | x::xs,ρ=>match G x ρ with
  | none=>.bad
  | some ρ1=>match S ρ1 with
   | .nx ρ2=>forF G S xs ρ2
   | .ct ρ2=>forF G S xs ρ2
   | .br ρ2=>.nx ρ2
   | r=>r
section
variable {mg:Str->Option Value} {K:PySem.W.Frag} {E:XK} {L:List Nat}
theorem tS.aft {G:SF} {D:Ends} {σ:St} {H:Hp} (h:tS mg K E L G D σ H):∃W ρ f,Ok mg K H W σ ρ f/\Aft mg K E L D σ H W f (G ρ):=by
 obtain ⟨W,ρ,f,ok,q⟩:=h;refine ⟨W,ρ,f,ok, ?_⟩
 cases a:G ρ<;>rw[a] at q<;>exact q
theorem tS.mk {G:SF} {D:Ends} {σ:St} {H:Hp} {W:Addr->Prop} {ρ:Rho} {f:Fp} (ok:Ok mg K H W σ ρ f) (q:Aft mg K E L D σ H W f (G ρ)):tS mg K E L G D σ H:=by
 refine ⟨W,ρ,f,ok, ?_⟩
 cases a:G ρ<;>rw[a] at q<;>exact q
theorem Aft.step {D:Ends} {σ σ1:St} {H H1:Hp} {W W1:Addr->Prop} {f f1:Fp} {r:Rt} (q:Aft mg K E L D σ H W f r) (m1:Mv (Inn f) H W (Inn f1) H1 W1) (l1:Held L σ σ1):Aft mg K E L D σ1 H1 W1 f1 r:=by
 cases r with
 | bad=>exact q
 | nx ρ'=>exact fun σ' H' W' f' s m l=>q σ' H' W' f' s (m1.trans m) (l1.trans l)
 | br ρ'=>exact fun σ' H' W' f' s m l=>q σ' H' W' f' s (m1.trans m) (l1.trans l)
 | ct ρ'=>exact fun σ' H' W' f' s m l=>q σ' H' W' f' s (m1.trans m) (l1.trans l)
 | rt o ρ'=>exact fun v σ' H' W' f' B s o nd ap m l=>q v σ' H' W' f' B s o nd ap (m1.trans m) (l1.trans l)
 | ex c ρ'=>exact fun σ' H' W' f' s m l=>q σ' H' W' f' s (m1.trans m) (l1.trans l)
theorem zhg {J:It} {items:List O} {G:GF} {S:SF} {D:Ends} {σ:St} {H1:Hp} {W1:Addr->Prop} {ρ1:Rho} {f1:Fp} (ok:Ok mg K H1 W1 σ ρ1 f1)
  (go:∀i H W',(∃A',Mv (Inn f1) H1 W1 A' H W')->i < items.length->J.go i H) (stop:∀H W',(∃A',Mv (Inn f1) H1 W1 A' H W')->J.stop items.length H)
  (yl:∀i H W' x H',(∃A',Mv (Inn f1) H1 W1 A' H W')->(∀x,W' x->H x≠none)->i < items.length->J.yld i H x H'->Gr H W' [] H' W'/\∃o,items[i]? = some o/\Ow mg K H' W' x o [])
  (q:Aft mg K E L D σ H1 W1 f1 (forF G S items ρ1)) :
  ∃W:Nat->Nat->St->Hp->Prop,(∃m,W 0 m σ H1)/\∀i m σ H,W i m σ H->
   (J.stop i H/\D.nx σ H)\/(J.go i H/\∃N:St->Hp->Prop,(∀σ' H',N σ' H'->∃m',m' < m/\W (i+1) m' σ' H')/\∀x H',J.yld i H x H'->tTg mg K L G x σ H' fun σ2 H2=>tS mg K E L S { D with nx:=N,ct:=N,bk:=D.nx } σ2 H2):=by
 let Pv:Nat->St->Hp->Prop:=fun i σ' H'=>∃W' ρ' f',Sl mg K H' W' σ' ρ' f'/\Mv (Inn f1) H1 W1 (Inn f') H' W'/\Held L σ σ'/\Aft mg K E L D σ H1 W1 f1 (forF G S (items.drop i) ρ')
 refine ⟨fun i m σ' H'=>m=items.length - i/\i<=items.length/\Pv i σ' H',⟨items.length,by simp,Nat.zero_le _,W1,ρ1,f1,ok.s,.refl ok.sub ok.dom,.refl,q⟩, ?_⟩
 rintro i m σ' H' ⟨rfl,hi,W',ρ',f',s',m',l',q'⟩
 by_cases hlt:i < items.length
 .refine .inr ⟨go i H' W' ⟨_,m'⟩ hlt,Pv (i+1),fun σ2 H2 p2=>⟨items.length - (i+1),by omega,rfl,hlt,p2⟩,fun x H2 y=>?_⟩;obtain ⟨g,o,eo,ow⟩:=yl i H' W' x H2 ⟨_,m'⟩ m'.dom' hlt y;have ed:items.drop i=o::items.drop (i+1):=by
   rw[List.drop_eq_getElem_cons hlt];rw[List.getElem?_eq_getElem hlt] at eo;cases eo;rfl
  rw[ed,forF] at q'
  cases e1:G o ρ' with
  | none=>rw[e1] at q';exact q'.elim
  | some ρ2=>
   rw[e1] at q';dsimp only at q';have s2:Sl mg K H2 W' σ' ρ' f':=s'.on g.d fun x hx=>g.kept m'.dom' (m'.sub' x hx)
   have m2:Mv (Inn f1) H1 W1 (Inn f') H2 W':=(m'.trans (g.mv m'.sub' m'.dom')).narrow fun x hx=>.inl hx
   refine ⟨W',ρ',f',o,[],ρ2,s2,ow,List.nodup_nil,fun x z=>(nomatch z),fun x hx=>m2.sub' x (hx.resolve_right fun z=>nomatch z),m2.dom',e1,fun σ3 f3 s3 i3 l3=>?_⟩;have m3:Mv (Inn f1) H1 W1 (Inn f3) H2 W':=m2.narrow fun x hx=>(i3 x hx).resolve_right fun z=>nomatch z
   refine tS.mk (.next s3 m3 fun _ z=>z) ?_
   cases e2:S ρ2 with
   | bad=>rw[e2] at q';exact q'
   | nx ρ3=>rw[e2] at q';exact fun σ4 H4 W4 f4 s4 m4 l4=>⟨W4,ρ3,f4,s4,m3.trans m4,(l'.trans l3).trans l4,q'⟩
   | ct ρ3=>rw[e2] at q';exact fun σ4 H4 W4 f4 s4 m4 l4=>⟨W4,ρ3,f4,s4,m3.trans m4,(l'.trans l3).trans l4,q'⟩
   | br ρ3=>rw[e2] at q';exact fun σ4 H4 W4 f4 s4 m4 l4=>q' σ4 H4 W4 f4 s4 (m3.trans m4) ((l'.trans l3).trans l4)
   | rt o ρ3=>rw[e2] at q';exact fun v σ4 H4 W4 f4 B s4 o nd ap m4 l4=>q' v σ4 H4 W4 f4 B s4 o nd ap (m3.trans m4) ((l'.trans l3).trans l4)
   | ex c ρ3=>rw[e2] at q';exact fun σ4 H4 W4 f4 s4 m4 l4=>q' σ4 H4 W4 f4 s4 (m3.trans m4) ((l'.trans l3).trans l4)
 .have e:i=items.length:=by omega
  subst e;rw[List.drop_length] at q';exact .inl ⟨stop H' W' ⟨_,m'⟩,q' σ' H' W' f' s' m' l'⟩
end
def sFor (I:Rho->Re (List O)) (G:GF) (S:SF):SF:=fun ρ=>match I ρ with
 | .bad=>.bad
 | .ex c ρ'=>.ex c ρ'
 | .ok items ρ' _=>forF G S items ρ'
def rngO (lo:Int) (n:Nat):List O:=(List.range n).map fun (k:Nat)=>.d (.int (lo+k))
def okR (j:Int):Bool:=decide (-4611686018427387904<=j/\j < 4611686018427387904)
def itR1 (A:EF):Rho->Re (List O):=fun ρ=>(eSc decI A ρ).bind fun j ρ1 q=>if okR j then .ok (rngO 0 j.toNat) ρ1 q else .bad
def zdZ:Nat->List PyData->List O
 | _,[]=>[]
 | k,d::ds=>.d (.tuple [.int k,d])::zdZ (k+1) ds
def itE (A:EF):Rho->Re (List O):=fun ρ=>(A ρ).bind fun r ρ1 q=>match coe ρ1 r with
 | some (o,ρ2)=>match fz o with
  | some (.list ds)=>.ok (zdZ 0 ds) ρ2 q
  | _=>.bad
 | none=>.bad
theorem zdv:∀(k:Nat) (ds:List PyData),(zdZ k ds).length=ds.length
 | _,[]=>rfl
 | k,d::ds=>by simp[zdZ,zdv]
theorem zdw:∀(k:Nat) (ds:List PyData) (i:Nat),(zdZ k ds)[i]? = (ds[i]?).map fun d=>O.d (.tuple [.int ((k+i:Nat):Int),d])
 | _,[],i=>by simp[zdZ]
 | k,d::ds,0=>by simp[zdZ]
 | k,d::ds,i+1=>by
  rw[zdZ,List.getElem?_cons_succ,zdw (k+1) ds i,List.getElem?_cons_succ]
  congr 2
  funext d
  rw[show k+1+i=k+(i+1) by omega]
section
variable {X:Cx} {E:XK} {L:List Nat}
theorem znp {mk:List PyData->List O} {A:EF} {σ:St} {H:Hp} {W:Addr->Prop} {ρ:Rho} {f:Fp} {T:List O->SF} {D:Ends} {R:V->Hp->Prop} (ok:Ok X.mg X.K H W σ ρ f)
  (q:Aft X.mg X.K E L D σ H W f (match ((A ρ).bind fun r ρ1 q=>match coe ρ1 r with
    | some (o,ρ2)=>match fz o with
     | some (.list ds)=>Re.ok (mk ds) ρ2 q
     | _=>.bad
    | none=>.bad:Re (List O)) with
   | .bad=>.bad
   | .ex c ρ'=>.ex c ρ'
   | .ok items ρ' _=>T items ρ'))
  (h:∀a xs ds H' W' f' ρ',Sl X.mg X.K H' W' σ ρ' f'->Mv (Inn f) H W (Inn f') H' W'->H' a=some (.lst xs)->¬W' a->Dns H' W' xs ds->Aft X.mg X.K E L D σ H W f (T (mk ds) ρ')->R (.ref a) H') :
  tR X.mg X.K E A σ H R:=by
 refine zh7 zag ok ?_
 cases a:A ρ with
 | bad=>rw[a] at q;exact q
 | ex c ρ'=>rw[a] at q;exact fun H' W' f' s m=>q σ H' W' f' s m .refl
 | ok r ρ1 k=>
  rw[a] at q;dsimp only[Re.bind] at q ⊢
  cases b:coe ρ1 r with
  | none=>rw[b] at q;exact q
  | some z=>
   obtain ⟨o,ρ2⟩:=z;rw[b] at q;dsimp only at q ⊢;intro v H' W' f' As s ow nd ap m
   cases c:fz o with
   | none=>rw[c] at q;exact False.elim q
   | some x=>
    rw[c] at q
    cases x with
    | list ds=>
     have dn:Dn H' (fun x=>W' x/\x∉As) v (.list ds):=ow.dn (fun _ z=>z.1) c fun x hx z=>z.2 hx
     cases dn with
     | @lst a xs _ n1 h1 t1=>
      refine h a xs ds H' (fun x=>W' x/\x∉As) f' ρ2 (s.on (DMv.weak fun _ z=>z.1) fun _ _=>rfl) ⟨m.same,fun x z=>m.less x z.1,fun x w=>?_,fun x hx=>m.ours x (.inl hx),m.sub,m.dom,fun x hx=>⟨m.sub' x (.inl hx),fun z=>ap x z hx⟩,fun x z=>m.dom' x z.1⟩ h1 n1 t1 q;rcases m.more x w with z | z
      .exact .inl z
      .by_cases y:x∈As
       .exact (m.ours x (.inr y)).imp id fun z=>absurd z (m.dom x w)
       .exact .inr ⟨z,y⟩
    | _=>exact False.elim q
theorem zju {elts:List Expr} {kk:Nat} {tp:Pos} {e:Expr} {body:List Stmt} {A:EF} {G:GF} {S:SF} {p cpos pos:Pos} (hp:PassesOwn (model X.prog X.w) X.A X.env X.xe) (hc:X.calm=true) (hgl:Gl X "enumerate") (hm:X.mg "enumerate"=none) (hi:VR X E e A) (hg:VG X L (.Tuple elts kk tp) G) (hb:VSs X E L body S)
  (hst:starEach [e] X.env=[(false,eval e X.env)]:=by rfl)
  (hs:∀x,foldedSetIterable (.Call (.Name "enumerate" p) [e] [] cpos) X.env x=pure x:=by intro _;rfl):VS X E L (.For (.Tuple elts kk tp) (.Call (.Name "enumerate" p) [e] [] cpos) body [] pos) (sFor (itE A) G S):=(zlB hp hc (pi_E hgl hm (zcL hi zdG hst) hst) hg hb hs).imp fun D σ H h=>by
 obtain ⟨W,ρ,f,ok,q⟩:=h.aft;refine znp (mk:=fun ds=>zdZ 0 ds) (T:=fun items=>forF G S items) ok q fun a xs ds H' W' f' ρ' s m ha na dn q=>⟨a,xs,rfl,ha, ?_⟩
 refine zhg (items:=zdZ 0 ds) (.next s m fun _ z=>z) (fun i H2 W2 ⟨_,mm⟩ hi=>?_) (fun H2 W2 ⟨_,mm⟩=>?_) (fun i H2 W2 x H3 ⟨_,mm⟩ dd hi y=>?_) (q.step m .refl)
 .rw[zdv,<-dn.length] at hi;exact ⟨xs,xs[i],(mm.d a _ ha na).1,by simp[hi]⟩
 .exact ⟨xs,(mm.d a _ ha na).1,by rw[zdv,dn.length];exact Nat.le_refl _⟩
 .obtain ⟨t,z,rfl,ht,rfl,y⟩:=y;have hx:=y xs (mm.d a _ ha na).1;obtain ⟨d,e1,e2⟩:=dn.getV hx;have g:Gr H2 W2 [] (upd H2 t (.tup [.int i,z])) W2:=.new ht;exact ⟨g,_,by rw[zdw,e1];rfl,.d (.tup (fun w=>dd t w ht) zbG (.cons (by rw[Nat.zero_add];exact .int _) (.cons ((e2.on mm.d).on g.d) .nil)))⟩
theorem zeS {tg a:Expr} {body:List Stmt} {A:EF} {G:GF} {S:SF} {p cpos pos:Pos} (hp:PassesOwn (model X.prog X.w) X.A X.env X.xe) (hc:X.calm=true) (hgl:Gl X "range") (hm:X.mg "range"=none) (ha:VR X E a A) (hg:VG X L tg G) (hb:VSs X E L body S)
  (hst:starEach [a] X.env=[(false,eval a X.env)]:=by rfl)
  (hs:∀x,foldedSetIterable (.Call (.Name "range" p) [a] [] cpos) X.env x=pure x:=by intro _;rfl):VS X E L (.For tg (.Call (.Name "range" p) [a] [] cpos) body [] pos) (sFor (itR1 A) G S):=(zlB hp hc (zgl hgl hm (zcL ha zdG hst) hst) hg hb hs).imp fun D σ H h=>by
 obtain ⟨W,ρ,f,ok,q⟩:=h.aft;refine tR.mono (toI (X:=X) (E:=E) (B:=A) (Q:=fun j H1=>okR j=true/\∃W1 ρ1 f1,Sl X.mg X.K H1 W1 σ ρ1 f1/\Mv (Inn f) H W (Inn f1) H1 W1/\Aft X.mg X.K E L D σ H W f (forF G S (rngO 0 j.toNat) ρ1)) ⟨W,ρ,f,ok, ?_⟩) fun v H1 hx1=>?_
 .unfold sFor itR1 at q
  cases c:eSc decI A ρ with
  | bad=>rw[c] at q;exact q
  | ex c ρ'=>rw[c] at q;exact fun H' W' f' s m=>q σ H' W' f' s m .refl
  | ok j ρ1 k=>
   rw[c] at q;dsimp only[Re.bind] at q;intro H1 W1 f1 s m _
   by_cases hr:okR j=true
   .rw[if_pos hr] at q;exact ⟨hr,W1,ρ1,f1,s,m,q⟩
   .rw[if_neg hr] at q;exact False.elim q
 .obtain ⟨j,e,hr,W1,ρ1,f1,s,m,q⟩:=hx1;have hr':=of_decide_eq_true hr;refine ⟨j,by rw[e],hr'.1,hr'.2,zhg (items:=rngO 0 j.toNat) (.next s m fun _ z=>z) (fun i H2 W2 ⟨_,mm⟩ hi=>?_) (fun H2 W2 ⟨_,mm⟩=>?_) (fun i H2 W2 x H3 ⟨_,mm⟩ dd hi y=>?_) (q.step m .refl)⟩
  .show i < j.toNat;simpa [rngO] using hi
  .show j.toNat<=_;simp[rngO]
  .obtain ⟨rfl,rfl⟩:=y;have hi':i < j.toNat:=by simpa [rngO] using hi
   exact ⟨.refl,.d (.int (0+i)),by simp[rngO,hi'],.d (.int _)⟩
def zbL (T:TF) (S:SF):Nat->Rho->Rt
 | 0,_=>.bad
 | n+1,ρ=>match T ρ with
  | .bad=>.bad
  | .ex c ρ'=>.ex c ρ'
  | .ok false ρ1 _=>.nx ρ1
  | .ok true ρ1 _=>match S ρ1 with
   | .nx ρ2=>zbL T S n ρ2
   | .ct ρ2=>zbL T S n ρ2
   | .br ρ2=>.nx ρ2
   | r=>r
theorem zgF {T:TF} {S:SF}:∀(n:Nat) (ρ:Rho),zbL T S n ρ≠.bad->zbL T S (n+1) ρ=zbL T S n ρ
 | 0,ρ,h=>absurd rfl h
 | n+1,ρ,h=>by
  rw[zbL];rw[zbL] at h ⊢
  cases a:T ρ with
  | bad=>rfl
  | ex c ρ'=>rfl
  | ok b ρ1 q=>
   rw[a] at h
   cases b with
   | false=>rfl
   | true=>
    dsimp only at h ⊢
    cases e:S ρ1 with
    | nx ρ2=>rw[e] at h;exact zgF n ρ2 h
    | ct ρ2=>rw[e] at h;exact zgF n ρ2 h
    | _=>rfl
theorem zgz {T:TF} {S:SF} {n:Nat} {ρ:Rho} (h:zbL T S n ρ≠.bad):∀k,zbL T S (n+k) ρ=zbL T S n ρ
 | 0=>rfl
 | k+1=>by
  have:=zgz h k
  rw[<-Nat.add_assoc,zgF (n+k) ρ (by rw[this];exact h),this]
open Classical in
def zer (T:TF) (S:SF):SF:=fun ρ=>if h:∃n,zbL T S n ρ≠.bad then zbL T S h.choose ρ else .bad
theorem zhW {T:TF} {S:SF} {n:Nat} {ρ:Rho} {r:Rt} (h:zbL T S n ρ=r) (hr:r≠.bad):zer T S ρ=r:=by
 have hn:zbL T S n ρ≠.bad:=by rw[h];exact hr
 have ex:∃n,zbL T S n ρ≠.bad:=⟨n,hn⟩;unfold zer;rw[dif_pos ex];have hc:=ex.choose_spec;have e1:=zgz hn ex.choose;have e2:=zgz hc n;rw[Nat.add_comm] at e2;rw[<-e2,e1,h]
theorem zk4 {T:TF} {S:SF} {ρ:Rho} (h:zer T S ρ≠.bad):∃n,zbL T S n ρ=zer T S ρ:=by
 unfold zer at h ⊢
 by_cases ex:∃n,zbL T S n ρ≠.bad
 .rw[dif_pos ex];exact ⟨_,rfl⟩
 .rw[dif_neg ex] at h;exact absurd rfl h
theorem zjD {c:Expr} {body:List Stmt} {T:TF} {S:SF} {pos:Pos} (hp:PassesOwn (model X.prog X.w) X.A X.env X.xe) (hc:VT X E c T) (hb:VSs X E L body S):VS X E L (.While c body [] pos) (zer T S):=(zmi hp hc hb).imp fun D σ H h=>by
 obtain ⟨W,ρ,f,ok,q⟩:=h.aft;have nb:zer T S ρ≠.bad:=fun z=>by rw[z] at q;exact q
 obtain ⟨n,hn⟩:=zk4 nb;refine ⟨fun m σ' H'=>∃W' ρ' f',Sl X.mg X.K H' W' σ' ρ' f'/\Mv (Inn f) H W (Inn f') H' W'/\Held L σ σ'/\zbL T S m ρ'=zer T S ρ,⟨n,W,ρ,f,ok.s,.refl ok.sub ok.dom,.refl,hn⟩, ?_⟩
 rintro m σ' H' ⟨W',ρ',f',s',m',l',e⟩
 cases m with
 | zero=>exact absurd e.symm nb
 | succ m=>
  rw[zbL] at e;refine ⟨W',ρ',f',.next s' m' fun _ z=>z, ?_⟩
  cases a:T ρ' with
  | bad=>rw[a] at e;exact absurd e.symm nb
  | ex c ρ1=>
   rw[a] at e;rw[<-e] at q;exact fun H1 W1 f1 s1 m1=>q σ' H1 W1 f1 s1 (m'.trans m1) l'
  | ok b ρ1 k=>
   rw[a] at e;intro H1 W1 f1 s1 m1 _
   cases b with
   | false=>
    rw[<-e] at q;exact q σ' H1 W1 f1 s1 (m'.trans m1) l'
   | true=>
    dsimp only at e;refine ⟨_,fun σ2 H2 h2=>⟨m,Nat.lt_succ_self m,h2⟩,tS.mk (.next s1 m1 fun _ z=>z) ?_⟩
    cases b2:S ρ1 with
    | bad=>rw[b2] at e;exact absurd e.symm nb
    | nx ρ2=>rw[b2] at e;exact fun σ2 H2 W2 f2 s2 m2 l2=>⟨W2,ρ2,f2,s2,(m'.trans m1).trans m2,l'.trans l2,e⟩
    | ct ρ2=>rw[b2] at e;exact fun σ2 H2 W2 f2 s2 m2 l2=>⟨W2,ρ2,f2,s2,(m'.trans m1).trans m2,l'.trans l2,e⟩
    | br ρ2=>rw[b2] at e;rw[<-e] at q;exact fun σ2 H2 W2 f2 s2 m2 l2=>q σ2 H2 W2 f2 s2 ((m'.trans m1).trans m2) (l'.trans l2)
    | rt o ρ2=>rw[b2] at e;rw[<-e] at q;exact fun v σ2 H2 W2 f2 B s2 o nd ap m2 l2=>q v σ2 H2 W2 f2 B s2 o nd ap ((m'.trans m1).trans m2) (l'.trans l2)
    | ex c ρ2=>rw[b2] at e;rw[<-e] at q;exact fun σ2 H2 W2 f2 s2 m2 l2=>q σ2 H2 W2 f2 s2 ((m'.trans m1).trans m2) (l'.trans l2)
end
def clrR:List (Option Nat)->Rho->Rho
 | [],ρ=>ρ
 | none::js,ρ=>clrR js ρ
 | some i::js,ρ=>clrR js (ρ.set i .z)
def zex (js:List (Option Nat)) (ρ:Rho):Rho:=js.map fun j=>match j with
 | none=>.z
 | some i=>(ρ[i]?).getD .z
def zdb:List (Option Nat)->Rho->Rho->Rho
 | none::js,_::r,ρ=>zdb js r ρ
 | some i::js,o::r,ρ=>zdb js r (ρ.set i o)
 | _,_,ρ=>ρ
def caps (js:List (Option Nat)):List Nat:=js.filterMap id
section
variable {mg:Str->Option Value} {K:PySem.W.Frag} {H:Hp} {W:Addr->Prop} {σ:St} {ρ:Rho} {f:Fp}
theorem zlC:∀{js:List (Option Nat)} {ρ:Rho} {f:Fp},Sl mg K H W σ ρ f->∃f',Sl mg K H W σ (clrR js ρ) f'/\(∀i,f' i=if i∈caps js then [] else f i)
 | [],ρ,f,s=>⟨f,s,fun i=>by simp[caps]⟩
 | none::js,ρ,f,s=>by
  obtain ⟨f',h1,h2⟩:=zlC (js:=js) s;exact ⟨f',h1,fun i=>by rw[h2];simp[caps]⟩
 | some j::js,ρ,f,s=>by
  obtain ⟨f',h1,h2⟩:=zlC (js:=js) (s.setZ (i:=j));refine ⟨f',h1,fun i=>?_⟩;rw[h2]
  by_cases e:i=j
  .subst e
   by_cases q:i∈caps js
   .rw[if_pos q,if_pos (by simp[caps])]
   .rw[if_neg q,zbt,if_pos (by simp[caps])]
  .rw[zbU e]
   have:i∈caps (some j::js)↔i∈caps js:=by simp[caps,e]
   by_cases q:i∈caps js
   .rw[if_pos q,if_pos (this.mpr q)]
   .rw[if_neg q,if_neg fun z=>q (this.mp z)]
def zeg (js:List (Option Nat)) (f:Fp):Fp:=fun k=>match js[k]? with
 | some (some i)=>f i
 | _=>[]
theorem zhk {js:List (Option Nat)} {k i:Nat} (h:js[k]? = some (some i)):i∈caps js:=List.mem_filterMap.mpr ⟨some i,List.mem_of_getElem? h,rfl⟩
theorem zhl:∀{js:List (Option Nat)} {k l i:Nat},(caps js).Nodup->js[k]? = some (some i)->js[l]? = some (some i)->k=l
 | [],k,l,i,_,h,_=>by simp at h
 | none::js,k,l,i,nd,h,h'=>by
  cases k with
  | zero=>cases h
  | succ k=>
   cases l with
   | zero=>cases h'
   | succ l=>rw[zhl (js:=js) (k:=k) (l:=l) (i:=i) (by simpa [caps] using nd) h h']
 | some j::js,k,l,i,nd,h,h'=>by
  have nd':j∉caps js/\(caps js).Nodup:=by
   have:caps (some j::js)=j::caps js:=by simp[caps]
   rw[this] at nd;exact List.nodup_cons.mp nd
  cases k with
  | zero=>
   cases l with
   | zero=>rfl
   | succ l=>cases h;exact absurd (zhk (js:=js) (k:=l) h') nd'.1
  | succ k=>
   cases l with
   | zero=>cases h';exact absurd (zhk (js:=js) (k:=k) h) nd'.1
   | succ l=>rw[zhl (js:=js) (k:=k) (l:=l) (i:=i) nd'.2 h h']
theorem zpn {js:List (Option Nat)} (nd:(caps js).Nodup) (s:Sl mg K H W σ ρ f):Sl mg K H W (pick σ js) (zex js ρ) (zeg js f):=by
 refine ⟨fun k o e=>?_,fun k hk=>?_,by unfold pick zex;simp,⟨fun k=>?_,fun k l hkl x hx hy=>?_⟩⟩
 .unfold zex at e;rw[List.getElem?_map] at e;unfold zeg pick;rw[List.getElem?_map]
  cases q:js[k]? with
  | none=>rw[q] at e;cases e
  | some j=>
   rw[q] at e
   cases j with
   | none=>cases e;exact .inl ⟨rfl,rfl⟩
   | some i=>
    dsimp only[Option.map] at e ⊢
    cases r:ρ[i]? with
    | none=>
     rw[r] at e;cases e;exact .inl ⟨rfl,s.no i (List.getElem?_eq_none_iff.mp r)⟩
    | some u=>
     rw[r] at e;cases e;rcases s.sl i u r with ⟨h1,h2⟩ | ⟨v,h1,h2⟩
     .exact .inl ⟨h1,h2⟩
     .exact .inr ⟨v,by rw[h1];rfl,h2⟩
 .unfold zeg;rw[List.getElem?_eq_none (by unfold zex at hk;simpa using hk)]
 .unfold zeg;split
  .exact s.fam.nd _
  .exact List.nodup_nil
 .unfold zeg at hx hy;split at hx
  .rename_i i hi;split at hy
   .rename_i j hj
    by_cases e:i=j
    .subst e;exact hkl (zhl nd hi hj)
    .exact s.fam.ap i j e x hx hy
   .cases hy
  .cases hx
theorem ziX:∀{js:List (Option Nat)} {r:Rho} {σ2:St} {g:Fp} {ρ:Rho} {f:Fp},(∀(k:Nat) (o:O),r[k]? = some o->(o=.z/\g k=[])\/∃v,σ2[k]? = some (some v)/\Ow mg K H W v o (g k))->Fam g->
  (∀(k i:Nat),js[k]? = some (some i)->σ2[k]? = some ((σ[i]?).getD none))->(caps js).Nodup->Sl mg K H W σ ρ f->(∀i∈caps js,f i=[])->(∀k i x,x∈g k->x∉f i)->
  ∃f',Sl mg K H W σ (zdb js r ρ) f'/\∀x,Inn f' x->Inn f x\/Inn g x
 | [],r,σ2,g,ρ,f,_,_,_,_,s,_,_=>by rw[zdb];exact ⟨f,s,fun x h=>.inl h⟩;all_goals simp
 | none::js,[],σ2,g,ρ,f,_,_,_,_,s,_,_=>by rw[zdb];exact ⟨f,s,fun x h=>.inl h⟩;all_goals simp
 | some j::js,[],σ2,g,ρ,f,_,_,_,_,s,_,_=>by rw[zdb];exact ⟨f,s,fun x h=>.inl h⟩;all_goals simp
 | none::js,o::r,σ2,g,ρ,f,h,fg,hσ,nd,s,hf,hd=>by
  rw[zdb];obtain ⟨f',a,b⟩:=ziX (js:=js) (r:=r) (σ2:=σ2.tail) (g:=fun k=>g (k+1)) (ρ:=ρ) (f:=f) (fun k o e=>by
    have:=h (k+1) o e
    simpa [List.getElem?_tail] using this) ⟨fun i=>fg.nd _,fun i l hil=>fg.ap _ _ (by omega)⟩ (fun k i e=>by
    have:=hσ (k+1) i e
    simpa [List.getElem?_tail] using this) (by simpa [caps] using nd) s (fun i hi=>hf i (by simpa [caps] using hi)) (fun k i x hx=>hd (k+1) i x hx)
  exact ⟨f',a,fun x hx=>(b x hx).imp id fun ⟨k,hk⟩=>⟨k+1,hk⟩⟩
 | some j::js,o::r,σ2,g,ρ,f,h,fg,hσ,nd,s,hf,hd=>by
  rw[zdb];have nd':j∉caps js/\(caps js).Nodup:=by
   have:caps (some j::js)=j::caps js:=by simp[caps]
   rw[this] at nd;exact List.nodup_cons.mp nd
  have s2:Sl mg K H W σ (ρ.set j o) (fset f j (g 0)):=by
   rcases h 0 o rfl with ⟨rfl,e⟩ | ⟨v,h1,h2⟩
   .rw[e];exact s.setZ
   .have e:=hσ 0 j rfl;rw[h1] at e;have e':σ[j]? = some (some v):=by
     cases q:σ[j]? with
     | none=>rw[q] at e;cases e
     | some u=>rw[q] at e;cases e;rfl
    exact s.setS e' h2 (fg.nd 0) fun x hx i _=>hd 0 i x hx
  obtain ⟨f',a,b⟩:=ziX (js:=js) (r:=r) (σ2:=σ2.tail) (g:=fun k=>g (k+1)) (ρ:=ρ.set j o) (f:=fset f j (g 0)) (fun k o e=>by
    have:=h (k+1) o e
    simpa [List.getElem?_tail] using this) ⟨fun i=>fg.nd _,fun i l hil=>fg.ap _ _ (by omega)⟩ (fun k i e=>by
    have:=hσ (k+1) i e
    simpa [List.getElem?_tail] using this) nd'.2 s2 (fun i hi=>by
    rw[zbU (show i≠j from fun z=>nd'.1 (z ▸ hi))];exact hf i (by rw[show caps (some j::js)=j::caps js by simp[caps]];exact List.mem_cons_of_mem _ hi)) (fun k i x hx=>by
    by_cases e:i=j
    .subst e;rw[zbt];exact fun z=>fg.ap (k+1) 0 (by omega) x hx z
    .rw[zbU e];exact hd (k+1) i x hx)
  exact ⟨f',a,fun x hx=>(b x hx).elim (fun z=>z.set.imp id fun y=>⟨0,y⟩) fun ⟨k,hk⟩=>.inr ⟨k+1,hk⟩⟩
end
def lcF (js:List (Option Nat)) (G:GF) (T:TF) (A:EF):List O->Rho->List O->Bool->Re (List O)
 | [],ρ,acc,q=>.ok acc ρ q
 | x::xs,ρ,acc,q=>match G x (zex js ρ) with
  | none=>.bad
  | some ρ1=>match T ρ1 with
   | .ok b ρ2 q2=>if b then match A ρ2 with
     | .ok r ρ3 q3=>match coe ρ3 r with
      | some (o,ρ4)=>lcF js G T A xs (zdb js ρ4 (clrR js ρ)) (acc++[o]) (q&&q2&&q3)
      | none=>.bad
     | _=>.bad
    else lcF js G T A xs (zdb js ρ2 (clrR js ρ)) acc (q&&q2)
   | _=>.bad
section
variable {mg:Str->Option Value} {K:PySem.W.Frag}
def E0':XK:=fun _ _ _=>False
theorem zn1 {js:List (Option Nat)} {H H':Hp} {W W':Addr->Prop} {σ σ2:St} {ρ ρ':Rho} {f f2:Fp} {B:List Addr} (nd:(caps js).Nodup) (ok:Ok mg K H W σ ρ f) (s2:Sl mg K H' W' σ2 ρ' f2) (ap:∀x∈B,¬Inn f2 x)
  (m:Mv (Inn (zeg js f)) H W (fun x=>Inn f2 x\/x∈B) H' W') (hσ:∀(k i:Nat),js[k]? = some (some i)->σ2[k]? = (pick σ js)[k]?) :
  ∃f',Sl mg K H' W' σ (zdb js ρ' (clrR js ρ)) f'/\(∀x∈B,¬Inn f' x)/\Mv (Inn f) H W (fun x=>Inn f' x\/x∈B) H' W'/\(∀x,Inn f x->¬Inn (zeg js f) x->H' x=H x):=by
 obtain ⟨f0,s0,e0⟩:=zlC (js:=js) ok.s;have sub0:∀x,Inn f0 x->Inn f x:=fun x hx__=>by
  obtain ⟨i,hi⟩:=hx__;rw[e0] at hi
  by_cases q:i∈caps js
  .rw[if_pos q] at hi;cases hi
  .rw[if_neg q] at hi;exact ⟨i,hi⟩
 have out0:∀x,Inn f0 x->¬Inn (zeg js f) x:=fun x ⟨i,hi⟩ ⟨k,hk⟩=>by
  rw[e0] at hi
  by_cases q:i∈caps js
  .rw[if_pos q] at hi;cases hi
  .rw[if_neg q] at hi;unfold zeg at hk;split at hk
   .rename_i j hj;exact ok.s.fam.ap i j (fun z=>q (z ▸ zhk hj)) x hi hk
   .cases hk
 have keep:∀x,Inn f0 x->W' x/\H' x=H x:=fun x hx=>m.hand (ok.sub x (sub0 x hx)) (out0 x hx)
 have away:∀x,Inn f0 x->¬(Inn f2 x\/x∈B):=fun x hx=>m.apart (ok.sub x (sub0 x hx)) (out0 x hx)
 have s1:Sl mg K H' W' σ (clrR js ρ) f0:=s0.on m.d fun x hx=>(keep x hx).2
 have pickget:∀(k i:Nat),js[k]? = some (some i)->(pick σ js)[k]? = some ((σ[i]?).getD none):=fun k i e=>by
  unfold pick;rw[List.getElem?_map,e];rfl
 obtain ⟨f',b1,b2⟩:=ziX (js:=js) (r:=ρ') (σ2:=σ2) (g:=f2) s2.sl s2.fam (fun k i e=>(hσ k i e).trans (pickget k i e)) nd s1 (fun i hi=>by rw[e0,if_pos hi]) (fun k i x hx z=>away x ⟨i,z⟩ (.inl ⟨k,hx⟩));have pin:∀x,Inn (zeg js f) x->Inn f x:=fun x hx__=>by
  obtain ⟨k,hk⟩:=hx__;unfold zeg at hk;split at hk
  .exact ⟨_,hk⟩
  .cases hk
 refine ⟨f',b1,fun x hx z=>?_,⟨fun b o e n=>m.same b o e fun z=>n (pin b z),m.less,fun x w=>(m.more x w).imp (pin x) id,fun x w=>?_,ok.sub,ok.dom,fun x w=>?_,m.dom'⟩,fun x hx hn=>?_⟩
 .rcases b2 x z with z | z
  .exact away x z (.inr hx)
  .exact ap x hx z
 .rcases w with w | w
  .rcases b2 x w with z | z
   .exact .inl (sub0 x z)
   .exact (m.ours x (.inl z)).imp (pin x) id
  .exact (m.ours x (.inr w)).imp (pin x) id
 .rcases w with w | w
  .rcases b2 x w with z | z
   .exact (keep x z).1
   .exact m.sub' x (.inl z)
  .exact m.sub' x (.inr w)
 .obtain ⟨i,hi⟩:=hx;have hc:i∉caps js:=fun z=>hn (by
   obtain ⟨j,hj,e⟩:=List.mem_filterMap.mp z;cases e;obtain ⟨k,hk,hk'⟩:=List.getElem_of_mem hj;exact ⟨k,by unfold zeg;rw[List.getElem?_eq_getElem hk,hk'];exact hi⟩)
  have h0:Inn f0 x:=⟨i,by rw[e0,if_neg hc];exact hi⟩;exact (keep x h0).2
theorem zjj {J:It} {js:List (Option Nat)} {items:List O} {L:List Nat} {G:GF} {T:TF} {A:EF} {σ:St} {H1:Hp} {W1:Addr->Prop} {ρ1:Rho} {f1:Fp} {Q:VK} {os:List O} {ρ':Rho} {q:Bool} (ok:Ok mg K H1 W1 σ ρ1 f1) (nd:(caps js).Nodup) (hL:∀(k i:Nat),js[k]? = some (some i)->k∈L)
  (hz:items.length<=sizeLine)
  (go:∀i H W',(∃A',Mv (Inn f1) H1 W1 A' H W')->i < items.length->J.go i H) (stop:∀H W',(∃A',Mv (Inn f1) H1 W1 A' H W')->J.stop items.length H)
  (yl:∀i H W' x H',(∃A',Mv (Inn f1) H1 W1 A' H W')->(∀x,W' x->H x≠none)->i < items.length->J.yld i H x H'->Gr H W' [] H' W'/\∃o,items[i]? = some o/\Ow mg K H' W' x o [])
  (e:lcF js G T A items ρ1 [] true=.ok os ρ' q)
  (fin:∀l acc H' W' f' As,H' l=none->Sl mg K H' W' σ ρ' f'->Ows mg K H' W' acc os As->As.Nodup->(∀x∈As,¬Inn f' x)->Mv (Inn f1) H1 W1 (fun x=>Inn f' x\/x∈As) H' W'->(q=true->∀x,Inn f1 x->H' x=H1 x)->Q (.ref l) (upd H' l (.lst acc))) :
  lcGo J js (tTg mg K L G) (tT mg K E0' T) (tR mg K E0' A) σ H1 Q:=by
 let Pv:Nat->List V->Hp->Prop:=fun i acc H'=>∃W' ρi f' As us qi,Sl mg K H' W' σ ρi f'/\Ows mg K H' W' acc us As/\As.Nodup/\(∀x∈As,¬Inn f' x)/\Mv (Inn f1) H1 W1 (fun x=>Inn f' x\/x∈As) H' W'/\(qi=true->∀x,Inn f1 x->H' x=H1 x)/\us.length<=i/\lcF js G T A (items.drop i) ρi us qi=.ok os ρ' q
 refine ⟨fun i m acc H'=>m=items.length - i/\i<=items.length/\Pv i acc H',⟨items.length,by simp,Nat.zero_le _,W1,ρ1,f1,[],[],true,ok.s,.nil,List.nodup_nil,fun x z=>(nomatch z),ok.refl,fun _ _ _=>rfl,Nat.le_refl _,e⟩, ?_⟩
 rintro i m acc H' ⟨rfl,hi,W',ρi,f',As,us,qi,s',o',ndA,apA,m',k',hlen,e'⟩
 have hacc:acc.length=us.length:=o'.length
 by_cases hlt:i < items.length
 .refine .inr ⟨go i H' W' ⟨_,m'⟩ hlt,by omega,fun x H2 y=>?_⟩;obtain ⟨g,ox,eo,ow⟩:=yl i H' W' x H2 ⟨_,m'⟩ m'.dom' hlt y;have ed:items.drop i=ox::items.drop (i+1):=by
   rw[List.drop_eq_getElem_cons hlt];rw[List.getElem?_eq_getElem hlt] at eo;cases eo;rfl
  rw[ed,lcF] at e';have ok':Ok mg K H' W' σ ρi f':=⟨s',fun x hx=>m'.sub' x (.inl hx),m'.dom'⟩
  cases e1:G ox (zex js ρi) with
  | none=>rw[e1] at e';cases e'
  | some ρ2=>
   rw[e1] at e';dsimp only at e';have s2:Sl mg K H2 W' σ ρi f':=s'.on g.d fun x hx=>g.kept m'.dom' (m'.sub' x (.inl hx))
   have ok2:Ok mg K H2 W' σ ρi f':=⟨s2,ok'.sub,fun x hx=>by rw[g.kept m'.dom' hx];exact m'.dom' x hx⟩;have p2:=zpn (js:=js) nd s2;have pin:∀x,Inn (zeg js f') x->Inn f' x:=fun x hx__=>by
    obtain ⟨k,hk⟩:=hx__;unfold zeg at hk;split at hk
    .exact ⟨_,hk⟩
    .cases hk
   refine ⟨W',zex js ρi,zeg js f',ox,[],ρ2,p2,ow,List.nodup_nil,fun x z=>(nomatch z),fun x hx=>ok2.sub x (pin x (hx.resolve_right fun z=>nomatch z)),ok2.dom,e1,fun σ3 f3 s3 i3 l3=>?_⟩;have i3':∀x,Inn f3 x->Inn (zeg js f') x:=fun x hx=>(i3 x hx).resolve_right fun z=>nomatch z
   have m3:Mv (Inn (zeg js f')) H2 W' (Inn f3) H2 W':=(Mv.refl (fun x hx=>ok2.sub x (pin x hx)) ok2.dom).narrow i3';have ok3:Ok mg K H2 W' σ3 ρ2 f3:=.next s3 m3 fun _ z=>z
   have held3:∀(k i:Nat),js[k]? = some (some i)->σ3[k]? = (pick σ js)[k]? := fun k i hk=>l3.2 k (hL k i hk)
   -- what was there ahead of the turn
   have back:∀{H4:Hp} {W4:Addr->Prop} {ρ4:Rho} {f4:Fp} {B:List Addr} {qq:Bool},Sl mg K H4 W4 σ3 ρ4 f4->(∀x∈B,¬Inn f4 x)->Mv (Inn f3) H2 W' (fun x=>Inn f4 x\/x∈B) H4 W4->(qq=true->∀x,Inn f3 x->H4 x=H2 x)->
     ∃f5,Sl mg K H4 W4 σ (zdb js ρ4 (clrR js ρi)) f5/\(∀x∈B,¬Inn f5 x)/\(∀x∈As,¬Inn f5 x/\x∉B)/\Ows mg K H4 W4 acc us As/\Mv (Inn f1) H1 W1 (fun x=>Inn f5 x\/x∈As\/x∈B) H4 W4/\((qi&&qq)=true->∀x,Inn f1 x->H4 x=H1 x):=fun {H4 W4 ρ4 f4 B qq} s4 ap4 m4 k4=>by
    have m4':Mv (Inn (zeg js f')) H2 W' (fun x=>Inn f4 x\/x∈B) H4 W4:=m3.trans m4;obtain ⟨f5,b1,b2,b3,b4⟩:=zn1 nd ok2 s4 ap4 m4' held3;have hAs:∀x∈As,W' x/\¬Inn f' x:=fun x hx=>⟨m'.sub' x (.inr hx),apA x hx⟩
    have keepA:∀x∈As,W4 x/\H4 x=H2 x:=fun x hx=>b3.hand (hAs x hx).1 (hAs x hx).2
    have awayA:∀x∈As,¬(Inn f5 x\/x∈B):=fun x hx=>b3.apart (hAs x hx).1 (hAs x hx).2
    have o2:Ows mg K H2 W' acc us As:=o'.on g.d fun x hx=>g.kept m'.dom' (hAs x hx).1
    refine ⟨f5,b1,b2,fun x hx=>⟨fun z=>awayA x hx (.inl z),fun z=>awayA x hx (.inr z)⟩,o2.on b3.d fun x hx=>(keepA x hx).2, ?_,fun hq x hx=>?_⟩
    .have gm:Mv (fun x=>Inn f' x\/x∈As) H' W' (fun x=>Inn f' x\/x∈As) H2 W':=(g.mv m'.sub' m'.dom').narrow fun x hx=>.inl hx
     refine (m'.trans gm).trans ⟨fun b o e n=>b3.same b o e fun z=>n (.inl z),b3.less,fun x w=>(b3.more x w).imp .inl id,fun x w=>?_,gm.sub',b3.dom,fun x w=>?_,b3.dom'⟩
     .rcases w with w | w | w
      .exact (b3.ours x (.inl w)).imp .inl id
      .exact .inl (.inr w)
      .exact (b3.ours x (.inr w)).imp .inl id
     .rcases w with w | w | w
      .exact b3.sub' x (.inl w)
      .exact (keepA x w).1
      .exact b3.sub' x (.inr w)
    .rw[Bool.and_eq_true] at hq;have h1:=k' hq.1 x hx
     cases ex:H1 x with
     | none=>exact absurd ex (ok.dom x (ok.sub x hx))
     | some u=>
      rw[ex] at h1;have h2:H2 x=some u:=g.same x u h1
      by_cases c:Inn f' x
      .by_cases c2:Inn (zeg js f') x
       .by_cases c3:Inn f3 x
        .rw[k4 hq.2 x c3];exact h2
        .exact m4.same x u h2 c3
       .rw[b4 x c c2];exact h2
      .exact b3.same x u h2 c
   refine ⟨W',ρ2,f3,ok3, ?_⟩
   cases e2:T ρ2 with
   | bad=>rw[e2] at e';cases e'
   | ex c ρ3=>rw[e2] at e';cases e'
   | ok b ρ3 q2=>
    rw[e2] at e';dsimp only at e';intro H4 W4 f4 s4 m4 k4
    cases b with
    | false=>
     rw[if_neg Bool.false_ne_true] at e' ⊢;obtain ⟨f5,b1,_,b3,b4,b5,b6⟩:=back (B:=[]) s4 (fun x z=>nomatch z) (m4.narrow fun x hx=>hx.resolve_right fun z=>nomatch z) k4;exact ⟨items.length - (i+1),by omega,rfl,hlt,W4,_,f5,As,us,_,b1,b4,ndA,fun x hx=>(b3 x hx).1,b5.narrow fun x hx=>hx.imp id .inl,b6,by omega,e'⟩
    | true=>
     rw[if_pos rfl] at e' ⊢;refine ⟨W4,ρ3,f4,.next s4 m4 fun _ z=>z, ?_⟩
     cases e3:A ρ3 with
     | bad=>rw[e3] at e';cases e'
     | ex c ρ4=>rw[e3] at e';cases e'
     | ok r ρ4 q3=>
      rw[e3] at e';dsimp only at e';intro v H5 W5 f5 B s5 r5 n5 m5 k5
      cases e4:coe ρ4 r with
      | none=>rw[e4] at e';cases e'
      | some z=>
       obtain ⟨o,ρ5⟩:=z;rw[e4] at e';dsimp only at e';obtain ⟨W6,f6,s6,g6,B',ow6,nd6,in6⟩:=zgn s5 (fun x hx=>m5.sub' x (.inl hx)) r5 e4;have hB':∀x∈B',W6 x/\¬Inn f6 x:=fun x hx=>⟨(g6.more x (m5.sub' x (.inr (in6 x hx)))).resolve_left (n5 x (in6 x hx)),fun z=>n5 x (in6 x hx) (g6.ours x z)⟩
       have m6:Mv (Inn f3) H2 W' (fun x=>Inn f6 x\/x∈B') H5 W6:=(m4.trans m5).trans (g6.mv (fun x hx=>.inl hx) m5.sub' m5.dom' fun x hx=>⟨.inr (in6 x hx),(hB' x hx).1⟩);obtain ⟨f7,b1,b2,b3,b4,b5,b6⟩:=back (B:=B') s6 (fun x hx=>(hB' x hx).2) m6 (zg5 ok3 k4 m5 k5);refine ⟨items.length - (i+1),by omega,rfl,hlt,W6,_,f7,As++(B'++[]),us++[o],_,b1,Ows.app b4 (.cons ow6 .nil), ?_,fun x hx=>?_,b5.narrow fun x hx=>?_,by rw[<-Bool.and_assoc] at b6;exact b6,by simp;omega,e'⟩
       .rw[List.append_nil];exact List.nodup_append.mpr ⟨ndA,nd6,fun x hx y hy z=>(b3 x hx).2 (z ▸ hy)⟩
       .rw[List.append_nil] at hx;exact (List.mem_append.mp hx).elim (fun z=>(b3 x z).1) (b2 x)
       .rw[List.append_nil] at hx;exact hx.imp id fun z=>List.mem_append.mp z
 .have e2:i=items.length:=by omega
  subst e2;rw[List.drop_length,lcF] at e'
  cases e'
  exact .inl ⟨stop H' W' ⟨_,m'⟩,by omega,fun l hl=>fin l acc H' W' f' As hl s' o' ndA apA m' k'⟩
end
def capL (js:List (Option Nat)):List Nat:=(List.range js.length).filter fun k=>match js[k]? with | some (some _)=>true | _=>false
theorem zgh {js:List (Option Nat)} {k i:Nat} (h:js[k]? = some (some i)):k∈capL js:=by
 unfold capL;rw[List.mem_filter,List.mem_range];exact ⟨(List.getElem?_eq_some_iff.mp h).1,by rw[h]⟩
def eLC (I:Rho->Re (List O)) (js:List (Option Nat)) (G:GF) (T:TF) (A:EF):EF:=fun ρ=>match I ρ with
 | .bad=>.bad
 | .ex c ρ'=>.ex c ρ'
 | .ok items ρ1 q1=>if items.length<=sizeLine then match lcF js G T A items ρ1 [] true with
   | .ok os ρ2 q2=>.ok (.own (.l os)) ρ2 (q1&&q2)
   | _=>.bad
  else .bad
section
variable {mg:Str->Option Value} {K:PySem.W.Frag} {E:XK}
theorem znH {σ:St} {H:Hp} {W:Addr->Prop} {ρ ρ2:Rho} {f f1:Fp} {Q:VK} {os:List O} {H1:Hp} {W1:Addr->Prop} {q1 q2:Bool} (ok:Ok mg K H W σ ρ f) (m1:Mv (Inn f) H W (Inn f1) H1 W1) (k1:q1=true->∀x,Inn f x->H1 x=H x)
  (q:∀v H' W' f' B,Sl mg K H' W' σ ρ2 f'->RvOk mg K H' W' σ v (.own (.l os)) B->(∀x∈B,¬Inn f' x)->Mv (Inn f) H W (fun x=>Inn f' x\/x∈B) H' W'->((q1&&q2)=true->∀x,Inn f x->H' x=H x)->Q v H') :
  ∀l acc H' W' f' As,H' l=none->Sl mg K H' W' σ ρ2 f'->Ows mg K H' W' acc os As->As.Nodup->(∀x∈As,¬Inn f' x)->Mv (Inn f1) H1 W1 (fun x=>Inn f' x\/x∈As) H' W'->(q2=true->∀x,Inn f1 x->H' x=H1 x)->Q (.ref l) (upd H' l (.lst acc)):=fun l acc H' W' f' As hl s o nd ap m k=>by
 have g:Gr H' W' [l] (upd H' l (.lst acc)) (fun x=>W' x\/x∈[l]):=Gr.newO hl;have m':=m1.trans m;have hlA:l∉As:=fun z=>m.dom' l (m.sub' l (.inr z)) hl
 refine q (.ref l) _ _ f' (l::As) (s.on g.d fun x hx=>g.kept m.dom' (m.sub' x (.inl hx))) ⟨.l zbG (o.on g.d fun x hx=>g.kept m.dom' (m.sub' x (.inr hx))),List.nodup_cons.mpr ⟨hlA,nd⟩⟩ (fun x hx z=>?_) ((m'.trans (g.mv m.sub' m.dom')).narrow fun x hx=>?_) fun hq=>g.quiet ok (zg5 ok k1 m k hq)
 .rcases List.mem_cons.mp hx with rfl | hx
  .exact m.dom' x (m.sub' x (.inl z)) hl
  .exact ap x hx z
 .rcases hx with hx | hx
  .exact .inl (.inl hx)
  .rcases List.mem_cons.mp hx with rfl | hx
   .exact .inr List.mem_cons_self
   .exact .inl (.inr hx)
theorem ziG {js:List (Option Nat)} {G:GF}:GK js (tTg mg K (capL js) G):=fun v σ H Q h=>by
 obtain ⟨W,ρ,f,o,B,ρ',sl,ow,nd,ap,sb,dm,e,q⟩:=h;exact ⟨W,ρ,f,o,B,ρ',sl,ow,nd,ap,sb,dm,e,fun σ' f' s i l=>⟨q σ' f' s i l,fun k j hk=>l.2 k (zgh hk)⟩⟩
theorem zpR {A0 A:EF} {js:List (Option Nat)} {G:GF} {T:TF} {σ:St} {H:Hp} {Q:VK} (nd:(caps js).Nodup) (h:tR mg K E (eLC (itR1 A0) js G T A) σ H Q):tLC (zqA (zml (tR mg K E A0) tNil)) js (tTg mg K (capL js) G) (tT mg K E0' T) (tR mg K E0' A) σ H Q:=by
 obtain ⟨W,ρ,f,ok,q⟩:=h;unfold eLC itR1 at q;refine tR.mono (zoq zkI (Q:=fun j H1=>okR j=true/\∃W1 ρ1 f1 q1,Sl mg K H1 W1 σ ρ1 f1/\Mv (Inn f) H W (Inn f1) H1 W1/\(q1=true->∀x,Inn f x->H1 x=H x)/\kR mg K E σ H W f Q (if (rngO 0 j.toNat).length<=sizeLine then match lcF js G T A (rngO 0 j.toNat) ρ1 [] true with
   | .ok os ρ2 q2=>Re.ok (Rv.own (.l os)) ρ2 (q1&&q2)
   | _=>.bad
  else .bad)) ⟨W,ρ,f,ok, ?_⟩) fun v H1 hx1=>?_
 .cases c:eSc decI A0 ρ with
  | bad=>rw[c] at q;exact q
  | ex c ρ'=>rw[c] at q;exact q
  | ok j ρ1 q1=>
   rw[c] at q;dsimp only[Re.bind] at q;intro H1 W1 f1 s m k
   by_cases hr:okR j=true
   .rw[if_pos hr] at q;exact ⟨hr,W1,ρ1,f1,q1,s,m,k,q⟩
   .rw[if_neg hr] at q;exact False.elim q
 .obtain ⟨j,e,hr,W1,ρ1,f1,q1,s,m,k,q⟩:=hx1;have hr':=of_decide_eq_true hr
  by_cases hz:(rngO 0 j.toNat).length<=sizeLine
  .rw[if_pos hz] at q
   cases b:lcF js G T A (rngO 0 j.toNat) ρ1 [] true with
   | bad=>rw[b] at q;exact False.elim q
   | ex c ρ'=>rw[b] at q;exact False.elim q
   | ok os ρ2 q2=>
    rw[b] at q;refine ⟨j,by rw[e],hr'.1,hr'.2,zjj (items:=rngO 0 j.toNat) (.next s m fun _ z=>z) nd (fun k i=>zgh) hz (fun i H2 W2 ⟨_,mm⟩ hi=>?_) (fun H2 W2 ⟨_,mm⟩=>?_) (fun i H2 W2 x H3 ⟨_,mm⟩ dd hi y=>?_) b (znH ok m k q)⟩
    .show i < j.toNat;simpa [rngO] using hi
    .show j.toNat<=_;simp[rngO]
    .obtain ⟨rfl,rfl⟩:=y;have hi':i < j.toNat:=by simpa [rngO] using hi
     exact ⟨.refl,.d (.int (0+i)),by simp[rngO,hi'],.d (.int _)⟩
  .rw[if_neg hz] at q;exact False.elim q
theorem zcD {X:Cx}:PF X [] (tT X.mg X.K E0' (gRet true)):=fun pins s σ H Q I h=>zrM pins s σ H Q I (tG.ret (E:=E0') h)
end
def pass:List Bool->List Rv->Rho->Option (List O×List Nat×Rho)
 | [],[],ρ=>some ([],[],ρ)
 | false::ms,r::rs,ρ=>match coe ρ r with
  | some (o,ρ1)=>match pass ms rs ρ1 with
   | some (os,is,ρ2)=>some (o::os,is,ρ2)
   | none=>none
  | none=>none
 | true::ms,.at i []::rs,ρ=>match ρ[i]? with
  | some .z=>none
  | some o=>match pass ms rs (ρ.set i .z) with
   | some (os,is,ρ2)=>some (o::os,i::is,ρ2)
   | none=>none
  | none=>none
 | _,_,_=>none
def zf9:List Bool->List V->List V
 | true::ms,v::vs=>v::zf9 ms vs
 | false::ms,_::vs=>zf9 ms vs
 | _,_=>[]
def zc4:List Bool->Rho->List O
 | true::ms,o::ρ=>o::zc4 ms ρ
 | false::ms,_::ρ=>zc4 ms ρ
 | _,_=>[]
def zfR:List Bool->Fp->Fp
 | true::ms,g=>ziy (g 0) (zfR ms fun k=>g (k+1))
 | false::ms,g=>zfR ms fun k=>g (k+1)
 | [],_=>fun _=>[]
def zhY:Nat->List Bool->List Nat
 | k,true::ms=>k::zhY (k+1) ms
 | k,false::ms=>zhY (k+1) ms
 | _,[]=>[]
def zeY:List Nat->List O->Rho->Rho
 | i::is,o::os,ρ=>zeY is os (ρ.set i o)
 | _,_,ρ=>ρ
section
variable {mg:Str->Option Value} {K:PySem.W.Frag} {H:Hp} {σ:St}
theorem Hd.cons {W:Addr->Prop} {v:V} {vs:List V} {o:O} {os:List O} {B:List Addr} {g:Fp} (h:Ow mg K H W v o B) (nd:B.Nodup) (t:Hd mg K H W vs os g) (ap:∀x∈B,¬Inn g x):Hd mg K H W (v::vs) (o::os) (ziy B g):=
 ⟨fun i u e=>by
  cases i with
  | zero=>cases e;exact ⟨v,rfl,h⟩
  | succ i=>exact t.hd i u e,fun i hi=>by
  cases i with
  | zero=>simp at hi
  | succ i=>exact t.no i (by simpa using hi),by simp[t.len],.cons nd t.fam ap⟩
theorem Hd.nil {W:Addr->Prop}:Hd mg K H W [] [] fun _=>[]:=⟨fun i u e=>by simp at e,fun _ _=>rfl,rfl,⟨fun _=>List.nodup_nil,fun _ _ _ _ z=>nomatch z⟩⟩
structure zpH (σ:St) (ρ:Rho) (is:List Nat) (vs:List V):Prop where
 nd:is.Nodup
 len:is.length=vs.length
 at_:∀(j i:Nat),is[j]? = some i->∃v,vs[j]? = some v/\σ[i]? = some (some v)/\ρ[i]? = some .z
theorem zsV {ρ ρ1:Rho} {r:Rv} {o:O} {i:Nat} (a:coe ρ r=some (o,ρ1)) (hi:ρ[i]? = some O.z):ρ1[i]? = some O.z:=by
 cases r with
 | own u=>cases a;exact hi
 | «at» j p=>
  rw[coe] at a
  cases c:ρ[j]? with
  | none=>rw[c] at a;cases a
  | some oi=>
   rw[c] at a;dsimp only at a
   by_cases hj:j=i
   .subst hj;rw[hi] at c;cases c
    cases p with
    | nil=>
     rw[show sub [] O.z=some O.z from rfl] at a;dsimp only at a;rw[show fz O.z=none from rfl] at a;cases a
    | cons k p=>cases a
   .have:ρ1=ρ\/∃y,ρ1=ρ.set j y:=by
     split at a
     .cases a;exact .inl rfl
     .cases a;exact .inl rfl
     .cases a;exact .inl rfl
     .cases a;exact .inl rfl
     .split at a
      .cases a;exact .inr ⟨_,rfl⟩
      .cases a
     .cases a
    rcases this with rfl | ⟨y,rfl⟩
    .exact hi
    .rw[List.getElem?_set_ne hj];exact hi
theorem znN {ms:List Bool} {rs:List Rv} {ρ ρ':Rho} {os:List O} {is:List Nat} (e:pass (false::ms) rs ρ=some (os,is,ρ')):∃r rt o ρ1 os',rs=r::rt/\coe ρ r=some (o,ρ1)/\pass ms rt ρ1=some (os',is,ρ')/\os=o::os':=by
 cases rs with
 | nil=>cases e
 | cons r rt=>
  rw[pass] at e
  cases a:coe ρ r with
  | none=>rw[a] at e;cases e
  | some z=>
   obtain ⟨o,ρ1⟩:=z;rw[a] at e;dsimp only at e
   cases b:pass ms rt ρ1 with
   | none=>rw[b] at e;cases e
   | some z=>
    obtain ⟨os',is',ρ2⟩:=z;rw[b] at e;cases e;exact ⟨r,rt,o,ρ1,os',rfl,a,b,rfl⟩
theorem zjN {ms:List Bool} {rs:List Rv} {ρ ρ':Rho} {os:List O} {is:List Nat} (e:pass (true::ms) rs ρ=some (os,is,ρ')):∃i rt o os' is',rs=.at i []::rt/\ρ[i]? = some o/\o≠.z/\pass ms rt (ρ.set i .z)=some (os',is',ρ')/\os=o::os'/\is=i::is':=by
 cases rs with
 | nil=>cases e
 | cons r rt=>
  cases r with
  | own u=>cases e
  | «at» i p=>
   cases p with
   | cons k p=>cases e
   | nil=>
    rw[pass] at e
    cases a:ρ[i]? with
    | none=>rw[a] at e;cases e
    | some o=>
     rw[a] at e;have nz:o≠.z:=fun z=>by subst z;cases e
     have e':(match pass ms rt (ρ.set i .z) with
      | some (os,is,ρ2)=>some (o::os,i::is,ρ2)
      | none=>none)=some (os,is,ρ'):=by
      cases o<;>first | exact e | exact absurd rfl nz
     cases b:pass ms rt (ρ.set i .z) with
     | none=>rw[b] at e';cases e'
     | some z=>
      obtain ⟨os',is',ρ2⟩:=z;rw[b] at e'
      cases e'
      exact ⟨i,rt,o,os',is',rfl,a,nz,b,rfl,rfl⟩
theorem zrw {ms:List Bool}:∀{rs:List Rv} {ρ ρ':Rho} {os:List O} {is:List Nat} {i:Nat},pass ms rs ρ=some (os,is,ρ')->ρ[i]? = some O.z->ρ'[i]? = some O.z/\i∉is:=by
 induction ms with
 | nil=>
  intro rs ρ ρ' os is i e h
  cases rs with
  | nil=>cases e;exact ⟨h,fun z=>nomatch z⟩
  | cons r rt=>cases e
 | cons m ms ih=>
  intro rs ρ ρ' os is i e h
  cases m with
  | false=>
   obtain ⟨r,rt,o,ρ1,os',rfl,a,b,rfl⟩:=znN e;exact ih b (zsV a h)
  | true=>
   obtain ⟨j,rt,o,os',is',rfl,a,nz,b,rfl,rfl⟩:=zjN e;have hj:j≠i:=fun z=>by subst z;rw[h] at a;cases a;exact nz rfl
   obtain ⟨q1,q2⟩:=ih b (i:=i) (by rw[List.getElem?_set_ne hj];exact h);exact ⟨q1,fun z=>(List.mem_cons.mp z).elim (fun z=>hj z.symm) q2⟩
structure zqm (mg:Str->Option Value) (K:PySem.W.Frag) (H:Hp) (σ:St) (ms:List Bool) (vs:List V) (W:Addr->Prop) (f g:Fp) (os:List O) (is:List Nat) (ρ':Rho) (W':Addr->Prop) (f' g':Fp):Prop where
 s:Sl mg K H W' σ ρ' f'
 v:Gv W f W' f'
 h:Hd mg K H W' vs os g'
 i:∀x,Inn g' x->(Inn g x\/Inn f x)/\W' x/\¬Inn f' x
 l:zpH σ ρ' is (zf9 ms vs)
 n:vs.length=ms.length
 j:ms.all (fun m=>!m)=true->∀x,Inn g' x->Inn g x
theorem zor {ms:List Bool}:∀{rs:List Rv} {vs:List V} {W:Addr->Prop} {ρ ρ':Rho} {f g:Fp} {os:List O} {is:List Nat},Sl mg K H W σ ρ f->(∀x,Inn f x->W x)->Rvs mg K H W σ vs rs g->(∀x,Inn g x->W x/\¬Inn f x)->pass ms rs ρ=some (os,is,ρ')->
  ∃W' f' g',zqm mg K H σ ms vs W f g os is ρ' W' f' g':=by
 induction ms with
 | nil=>
  intro rs vs W ρ ρ' f g os is s sb h hg e
  cases rs with
  | cons r rt=>cases e
  | nil=>
   cases e
   cases vs with
   | nil=>exact ⟨W,f,_,s,.refl sb,.nil,fun x ⟨_,z⟩=>(nomatch z),⟨List.nodup_nil,rfl,fun j i e=>by simp at e⟩,rfl,fun _ x ⟨_,z⟩=>nomatch z⟩
   | cons v vs=>have:=h.len;simp at this
 | cons m ms ih=>
  intro rs vs W ρ ρ' f g os is s sb h hg e
  cases m with
  | false=>
   obtain ⟨r,rt,o,ρ1,os',rfl,a,b,rfl⟩:=znN e;obtain ⟨v,us,rfl,h0,ht⟩:=h.tail;obtain ⟨W1,f1,s1,g1,B,o1,nd1,in1⟩:=zgn s sb h0 a;have hg1:∀x,Inn g x->W1 x/\¬Inn f1 x:=fun x hx=>⟨(g1.more x (hg x hx).1).resolve_left (hg x hx).2,fun z=>(hg x hx).2 (g1.ours x z)⟩
   obtain ⟨W2,f2,g2,p⟩:=ih s1 g1.sub (ht.weak g1.less) (fun x ⟨k,hk⟩=>hg1 x ⟨k+1,hk⟩) b;have hB:∀x∈B,W1 x/\¬Inn f1 x:=fun x hx=>hg1 x ⟨0,in1 x hx⟩
   have ap:∀x∈B,¬Inn g2 x:=fun x hx z=>by
    rcases (p.i x z).1 with ⟨k,hk⟩ | q
    .exact h.fam.ap 0 (k+1) (by omega) x (in1 x hx) hk
    .exact (hB x hx).2 q
   refine ⟨W2,f2,ziy B g2,p.s,g1.trans p.v,.cons (o1.on (DMv.weak p.v.less) fun _ _=>rfl) nd1 p.h ap,fun x hx=>?_,p.l,by simp[p.n],fun hm x hx=>(inn_cons.mp hx).elim (fun hx=>⟨0,in1 x hx⟩) fun hx=>(fun ⟨k,hk⟩=>⟨k+1,hk⟩) (p.j (by simpa using hm) x hx)⟩;rcases inn_cons.mp hx with hx | hx
   .exact ⟨.inl ⟨0,in1 x hx⟩,(p.v.more x (hB x hx).1).resolve_left (hB x hx).2,fun z=>(hB x hx).2 (p.v.ours x z)⟩
   .obtain ⟨q1,q2,q3⟩:=p.i x hx;exact ⟨q1.elim (fun ⟨k,hk⟩=>.inl ⟨k+1,hk⟩) fun z=>.inr (g1.ours x z),q2,q3⟩
  | true=>
   obtain ⟨i,rt,o,os',is',rfl,a,nz,b,rfl,rfl⟩:=zjN e;obtain ⟨v,us,rfl,h0,ht⟩:=h.tail;obtain ⟨_,u,h1,h2⟩:=h0
   cases (show u=v from h2)
   rcases s.sl i o a with ⟨z,_⟩ | ⟨u',g1,ow⟩
   .exact absurd z nz
   .rw[h1] at g1;cases g1;have hil:i < ρ.length:=(List.getElem?_eq_some_iff.mp a).1;have sbZ:∀x,Inn (fset f i []) x->Inn f x:=fun x hx=>hx.set.elim id fun z=>nomatch z
    have outZ:∀x∈f i,¬Inn (fset f i []) x:=fun x hx hx__=>by
     obtain ⟨j,hj⟩:=hx__
     by_cases q:j=i
     .subst q;rw[zbt] at hj;cases hj
     .rw[zbU q] at hj;exact s.fam.ap j i q x hj hx
    obtain ⟨W2,f2,g2,p⟩:=ih (s.setZ (i:=i)) (fun x hx=>sb x (sbZ x hx)) ht (fun x ⟨k,hk⟩=>⟨(hg x ⟨k+1,hk⟩).1,fun z=>(hg x ⟨k+1,hk⟩).2 (sbZ x z)⟩) b;have ap:∀x∈f i,¬Inn g2 x:=fun x hx z=>by
     rcases (p.i x z).1 with ⟨k,hk⟩ | q
     .exact (hg x ⟨k+1,hk⟩).2 ⟨i,hx⟩
     .exact outZ x hx q
    obtain ⟨zi,ni⟩:=zrw b (i:=i) (List.getElem?_set_self hil);refine ⟨W2,f2,ziy (f i) g2,p.s,⟨p.v.less,fun x hx=>(p.v.more x hx).imp (sbZ x) id,fun x hx=>sbZ x (p.v.ours x hx),p.v.sub⟩,.cons (ow.on (DMv.weak p.v.less) fun _ _=>rfl) (s.fam.nd i) p.h ap,fun x hx=>?_,⟨List.nodup_cons.mpr ⟨ni,p.l.nd⟩,by simp[zf9,p.l.len],fun j k hk=>?_⟩,by simp[p.n],fun hm=>by simp at hm⟩
    .rcases inn_cons.mp hx with hx | hx
     .exact ⟨.inr ⟨i,hx⟩,(p.v.more x (sb x ⟨i,hx⟩)).resolve_left (outZ x hx),fun z=>outZ x hx (p.v.ours x z)⟩
     .obtain ⟨q1,q2,q3⟩:=p.i x hx;exact ⟨q1.elim (fun ⟨k,hk⟩=>.inl ⟨k+1,hk⟩) fun z=>.inr (sbZ x z),q2,q3⟩
    .cases j with
     | zero=>cases hk;exact ⟨v,rfl,h1,zi⟩
     | succ j=>exact p.l.at_ j k hk
theorem zmq {is:List Nat}:∀{os:List O} {vs:List V} {W:Addr->Prop} {ρ:Rho} {f g:Fp},Sl mg K H W σ ρ f->zpH σ ρ is vs->Hd mg K H W vs os g->(∀x,Inn g x->¬Inn f x)->∃f',Sl mg K H W σ (zeY is os ρ) f'/\∀x,Inn f' x->Inn f x\/Inn g x:=by
 induction is with
 | nil=>
  intro os vs W ρ f g s l h ap;exact ⟨f,by unfold zeY;exact s,fun x hx=>.inl hx⟩
 | cons i is ih=>
  intro os vs W ρ f g s l h ap
  cases os with
  | nil=>exact ⟨f,by unfold zeY;exact s,fun x hx=>.inl hx⟩
  | cons o os=>
   obtain ⟨v,e1,e2,e3⟩:=l.at_ 0 i rfl;obtain ⟨v',e1',ow⟩:=h.hd 0 o rfl;rw[e1] at e1'
   cases e1'
   cases vs with
   | nil=>cases e1
   | cons w vs=>
    cases e1;have s1:=s.setS e2 ow (h.fam.nd 0) fun x hx j _ z=>ap x ⟨0,hx⟩ ⟨j,z⟩
    have nd:=List.nodup_cons.mp l.nd;obtain ⟨f',a1,a2⟩:=ih (os:=os) (vs:=vs) (g:=fun k=>g (k+1)) s1 ⟨nd.2,by have:=l.len;simpa using this,fun j k hk=>by
      obtain ⟨u,q1,q2,q3⟩:=l.at_ (j+1) k hk;refine ⟨u,q1,q2, ?_⟩;rw[List.getElem?_set_ne (fun z:i=k=>nd.1 (z ▸ List.mem_of_getElem? hk))];exact q3⟩ ⟨fun k u e=>h.hd (k+1) u e,fun k hk=>h.no (k+1) (by simpa using hk),by have:=h.len;simpa using this,⟨fun k=>h.fam.nd _,fun k l hkl=>h.fam.ap _ _ (by omega)⟩⟩ (fun x ⟨k,hk⟩ z=>z.set.elim (ap x ⟨k+1,hk⟩) fun y=>h.fam.ap (k+1) 0 (by omega) x hk y)
    exact ⟨f',by rw[zeY];exact a1,fun x hx=>(a2 x hx).elim (fun z=>z.set.imp id fun y=>⟨0,y⟩) fun ⟨k,hk⟩=>.inr ⟨k+1,hk⟩⟩
end
def kVS (mg:Str->Option Value) (K:PySem.W.Frag) (ms:List Bool) (vs:List V) (H:Hp) (Q:VK) (E:XK) (W:Addr->Prop) (g:Fp):Rc->Prop
 | .bad=>False
 | .ok o outs=>∀v H' W' B g',Ow mg K H' W' v o B->B.Nodup->Hd mg K H' W' (zf9 ms vs) outs g'->(∀x∈B,¬Inn g' x)->Mv (Inn g) H W (fun x=>Inn g' x\/x∈B) H' W'->Q v H'
 | .ex c outs=>∀H' W' g',Hd mg K H' W' (zf9 ms vs) outs g'->Mv (Inn g) H W (Inn g') H' W'->XW mg K E c H'
def VSp (mg:Str->Option Value) (K:PySem.W.Frag) (ms:List Bool) (F:FC):Sp:=fun vs H Q E=>vs.length=ms.length/\∃W os g,Hd mg K H W vs os g/\(∀x,Inn g x->W x)/\(∀x,W x->H x≠none)/\kVS mg K ms vs H Q E W g (F os)
def scl:O->Bool
 | .d .none=>true
 | .d (.bool _)=>true
 | .d (.int _)=>true
 | .d (.str _)=>true
 | _=>false
theorem zqj {mg:Str->Option Value} {K:PySem.W.Frag} {H:Hp} {W W':Addr->Prop} {v:V} {o:O} {B:List Addr} (h:Ow mg K H W v o B) (e:scl o=true):Ow mg K H W' v o []:=by
 unfold scl at e;split at e
 .rw[h.non];exact .d .non
 .rw[h.bl];exact .d (.bl _)
 .rw[h.int];exact .d (.int _)
 .rw[h.str];exact .d (.str _)
 .cases e
def zan (ms:List Bool) (F:FC) (A:AF):EF:=fun ρ=>(A ρ).bind fun rs ρ1 q=>match pass ms rs ρ1 with
 | some (os,is,ρ2)=>match F os with
  | .bad=>.bad
  | .ok o outs=>if ms.all (fun m=>!m)&&scl o then .ok (.own o) ρ1 false else .ok (.own o) (zeY is outs ρ2) false
  | .ex c outs=>.ex c (zeY is outs ρ2)
 | none=>.bad
abbrev VDef (P:Program) (w:World) (K:PySem.W.Frag) (mg:Str->Option Value) (base:Heap) (x:Str) (ps:List Str) (k:Nat) (ms:List Bool) (F:FC):Prop:=zkX P w K mg base x ps k (VSp mg K ms F)
section
variable {X:Cx} {E:XK}
theorem zoT {ms:List Bool} {F:FC} {A:AF} {σ:St} {H:Hp} {Q:VK} (h:tR X.mg X.K E (zan ms F A) σ H Q):zqU (VSp X.mg X.K ms F) [] E (tRs X.mg X.K E A) σ H Q:=by
 obtain ⟨W,ρ,f,ok,q⟩:=h;refine ⟨W,ρ,f,ok, ?_⟩;unfold zan at q
 cases a:A ρ with
 | bad=>rw[a] at q;exact q
 | ex c ρ'=>rw[a] at q;exact q
 | ok rs ρ1 q1=>
  rw[a] at q;intro vs H1 W1 f1 g s1 r1 n1 m1 k1;dsimp only[Re.bind] at q
  cases b:pass ms rs ρ1 with
  | none=>rw[b] at q;exact False.elim q
  | some z=>
   obtain ⟨os,is,ρ2⟩:=z;rw[b] at q;dsimp only at q;obtain ⟨W2,f2,g2,p⟩:=zor s1 (fun x hx=>m1.sub' x (.inl hx)) r1 (fun x hx=>⟨m1.sub' x (.inr hx),n1 x hx⟩) b;have dom2:∀x,W2 x->H1 x≠none:=fun x hx=>m1.dom' x (p.v.less x hx)
   have m2:Mv (Inn f) H W (fun x=>Inn f2 x\/Inn g2 x) H1 W2:=m1.trans ⟨fun _ _ h _=>h,fun x h=>.inl (p.v.less x h),fun x h=>(p.v.more x h).imp .inl id,fun x h=>.inl (h.elim (fun z=>.inl (p.v.ours x z)) fun z=>(p.i x z).1.elim .inr .inl),m1.sub',m1.dom',fun x h=>h.elim (p.v.sub x) fun z=>(p.i x z).2.1,dom2⟩;rw[List.append_nil];refine ⟨p.n,W2,os,g2,p.h,fun x hx=>(p.i x hx).2.1,dom2, ?_⟩
   -- behind the call
   have rest:∀{H':Hp} {W':Addr->Prop} {g':Fp} {outs:List O} {B:List Addr},Hd X.mg X.K H' W' (zf9 ms vs) outs g'->(∀x∈B,¬Inn g' x)->Mv (Inn g2) H1 W2 (fun x=>Inn g' x\/x∈B) H' W'->
     ∃f',Sl X.mg X.K H' W' σ (zeY is outs ρ2) f'/\(∀x∈B,¬Inn f' x)/\Mv (Inn f) H W (fun x=>Inn f' x\/x∈B) H' W':=fun {H' W' g' outs B} hd ap m=>by
    have keep:∀x,Inn f2 x->W' x/\H' x=H1 x:=fun x hx=>m.hand (p.v.sub x hx) fun z=>(p.i x z).2.2 hx
    have away:∀x,Inn f2 x->¬(Inn g' x\/x∈B):=fun x hx=>m.apart (p.v.sub x hx) fun z=>(p.i x z).2.2 hx
    have s3:Sl X.mg X.K H' W' σ ρ2 f2:=p.s.on m.d fun x hx=>(keep x hx).2
    obtain ⟨f',b1,b2⟩:=zmq (os:=outs) s3 p.l hd fun x hx z=>away x z (.inl hx)
    refine ⟨f',b1,fun x hx z=>?_,m2.trans ⟨fun b o e n=>m.same b o e fun z=>n (.inr z),m.less,fun x w=>(m.more x w).imp .inr id,fun x w=>?_,m2.sub',m.dom,fun x w=>?_,m.dom'⟩⟩
    .rcases b2 x z with z | z
     .exact away x z (.inr hx)
     .exact ap x hx z
    .rcases w with w | w
     .rcases b2 x w with z | z
      .exact .inl (.inl z)
      .exact (m.ours x (.inl z)).imp .inr id
     .exact (m.ours x (.inr w)).imp .inr id
    .rcases w with w | w
     .rcases b2 x w with z | z
      .exact (keep x z).1
      .exact m.sub' x (.inl z)
     .exact m.sub' x (.inr w)
   cases c:F os with
   | bad=>rw[c] at q;exact q
   | ok o outs=>
    rw[c] at q;intro v H' W' B g' ow nd hd ap m;dsimp only at q
    by_cases hm:(ms.all (fun m=>!m)&&scl o)=true
    .rw[if_pos hm] at q;rw[Bool.and_eq_true] at hm;have gg:=p.j hm.1;have ng:∀x,Inn f1 x->¬Inn g2 x:=fun x hx z=>n1 x (gg x z) hx
     have keep:∀x,Inn f1 x->H' x=H1 x:=fun x hx=>by
      cases e:H1 x with
      | none=>exact absurd e (m1.dom' x (m1.sub' x (.inl hx)))
      | some u=>exact m.same x u e (ng x hx)
     have dm:DMv H1 W1 H' (fun x=>W' x\/Inn f1 x):=fun a o ha na=>⟨m.same a o ha fun z=>na (m1.sub' a (.inr (gg a z))),fun z=>z.elim (fun z=>(m.less a z).elim (fun y=>na (p.v.less a y)) fun y=>by rw[ha] at y;cases y) fun z=>na (m1.sub' a (.inl z))⟩
     refine q v H' (fun x=>W' x\/Inn f1 x) f1 [] (s1.on dm keep) ⟨zqj ow hm.2,List.nodup_nil⟩ (fun x z=>nomatch z) ((m1.trans ⟨fun b o e n=>m.same b o e fun z=>n (.inr (gg b z)),fun x w=>?_,fun x w=>?_,fun x w=>.inl (.inl w),m1.sub',m1.dom',fun x w=>.inr w,fun x w=>?_⟩).narrow fun x hx=>hx.resolve_right fun z=>nomatch z) fun z=>nomatch z
     .exact w.elim (fun w=>(m.less x w).imp (p.v.less x) id) fun w=>.inl (m1.sub' x (.inl w))
     .rcases p.v.more x w with y | y
      .exact .inl (.inl y)
      .exact (m.more x y).imp (fun z=>.inr (gg x z)) .inl
     .exact w.elim (m.dom' x) fun w=>by rw[keep x w];exact m1.dom' x (m1.sub' x (.inl w))
    .rw[if_neg hm] at q;obtain ⟨f',b1,b2,b3⟩:=rest hd ap m;exact q v H' W' f' B b1 ⟨ow,nd⟩ b2 b3 fun z=>nomatch z
   | ex c outs=>
    rw[c] at q;intro H' W' g' hd m;obtain ⟨f',b1,_,b3⟩:=rest (B:=[]) hd (fun x z=>nomatch z) (m.narrow fun x hx=>hx.resolve_right fun z=>nomatch z);exact q H' W' f' b1 (b3.narrow fun x hx=>.inl hx)
theorem zai {k j:Nat} {ps:List Str} {ms:List Bool} {F:FC} {x:Str} {p pos:Pos} {e:Expr} {es:List Expr} {A:AF} (C:VDef X.prog X.w X.K X.mg X.base x ps k ms F) (hr:Room j X.A) (hj:k<=j) (hg:Gl X x) (hx:zhZ (CXF X.prog X.w X.base) X E) (ha:VA X E (e::es) A)
  (hdb:(x==("__debug__":Str))=false:=by decide +kernel) (he:starEach (e::es) X.env=(false,eval e X.env)::starEach es X.env:=by rfl) (hpl:(backTo pos (starEach es X.env)).any (·.1)=false:=by rfl) :
  VR X E (.Call (.Name x p) (e::es) [] pos) (zan ms F A):=by
 obtain ⟨f,fd,h1,h2,h3,h4⟩:=C.ex;exact (zoo h4 (hr.mono hj) hg h1 h2 h3 .nil hx ha hdb he hpl).imp fun σ H Q h=>zoT h
theorem zb0:zhZ (CXF X.prog X.w X.base) X E0':=fun pins σ H s e s' I h=>by
 obtain ⟨_,_,_,_,_,_,_,_,_,_,z⟩:=h;exact z.elim
def runF (ms:List Bool) (n:Nat) (S:SF):FC:=fun os=>match S (os++List.replicate (n - os.length) .z) with
 | .nx ρ'=>.ok (.d .none) (zc4 ms ρ')
 | .rt o ρ'=>.ok o (zc4 ms ρ')
 | .ex c ρ'=>.ex c (zc4 ms ρ')
 | _=>.bad
theorem zn4 {mg:Str->Option Value} {K:PySem.W.Frag} {H:Hp} {W:Addr->Prop} {ms:List Bool}:∀{vs:List V} {ρ:Rho} {σ:St} {f:Fp} {k:Nat},(∀(i:Nat) (o:O),ρ[i]? = some o->(o=.z/\f i=[])\/∃v,σ[i]? = some (some v)/\Ow mg K H W v o (f i))->Fam f->ms.length<=ρ.length->vs.length=ms.length->
  (∀(i:Nat) (v:V),ms[i]? = some true->vs[i]? = some v->σ[i]? = some (some v))->Hd mg K H W (zf9 ms vs) (zc4 ms ρ) (zfR ms f)/\∀x,Inn (zfR ms f) x->Inn f x:=by
 induction ms with
 | nil=>intro vs ρ σ f k _ _ _ _ _;exact ⟨by unfold zf9 zc4 zfR;exact .nil,fun x ⟨_,z⟩=>by unfold zfR at z;cases z⟩
 | cons m ms ih=>
  intro vs ρ σ f k h fm hl hv hh
  cases ρ with
  | nil=>simp at hl
  | cons o ρ=>
   cases vs with
   | nil=>simp at hv
   | cons v vs=>
    obtain ⟨a,b⟩:=ih (vs:=vs) (ρ:=ρ) (σ:=σ.tail) (f:=fun i=>f (i+1)) (k:=k) (fun i u e=>by
     have:=h (i+1) u e
     simpa [List.getElem?_tail] using this) ⟨fun i=>fm.nd _,fun i j hij=>fm.ap _ _ (by omega)⟩ (by simpa using hl) (by simpa using hv) (fun i u e1 e2=>by
     have:=hh (i+1) u e1 e2
     simpa [List.getElem?_tail] using this)
    cases m with
    | false=>exact ⟨by rw[zf9,zc4,zfR];exact a,fun x hx=>by rw[zfR] at hx;obtain ⟨i,hi⟩:=b x hx;exact ⟨i+1,hi⟩⟩
    | true=>
     have ow:Ow mg K H W v o (f 0):=by
      rcases h 0 o rfl with ⟨rfl,e⟩ | ⟨u,e1,e2⟩
      .rw[e];exact .z v
      .rw[hh 0 v rfl rfl] at e1;cases e1;exact e2
     have ap:∀x∈f 0,¬Inn (zfR ms fun i=>f (i+1)) x:=fun x hx z=>by
      obtain ⟨i,hi⟩:=b x z;exact fm.ap 0 (i+1) (by omega) x hx hi
     refine ⟨by rw[zf9,zc4,zfR];exact .cons ow (fm.nd 0) a ap,fun x hx=>?_⟩;rw[zfR] at hx;rcases inn_cons.mp hx with hx | hx
     .exact ⟨0,hx⟩
     .obtain ⟨i,hi⟩:=b x hx;exact ⟨i+1,hi⟩
theorem zk0:∀{ms:List Bool} {k i:Nat},ms[i]? = some true->k+i∈zhY k ms:=by
 intro ms
 induction ms with
 | nil=>intro k i h;simp at h
 | cons m ms ih=>
  intro k i h
  cases i with
  | zero=>cases h;rw[zhY];exact List.mem_cons_self
  | succ i=>
   have:=ih (k:=k+1) (i:=i) (by simpa using h)
   rw[show k+1+i=k+(i+1) by omega] at this
   cases m with
   | true=>rw[zhY];exact List.mem_cons_of_mem _ this
   | false=>rw[zhY];exact this
theorem zj1 {mg:Str->Option Value} {K:PySem.W.Frag} {H:Hp} {W:Addr->Prop} {N:List Str} {vs:List V} {os:List O} {g:Fp} (h:Hd mg K H W vs os g) (hn:vs.length<=N.length):Sl mg K H W (start N vs) (os++List.replicate (N.length - os.length) .z) g:=by
 have hl:=h.len;refine ⟨fun i o e=>?_,fun i hi=>h.no i (by simp at hi;omega),by unfold start;simp;omega,h.fam⟩
 by_cases hi:i < os.length
 .rw[List.getElem?_append_left hi] at e;obtain ⟨v,e1,e2⟩:=h.hd i o e;refine .inr ⟨v, ?_,e2⟩;unfold start;rw[List.getElem?_append_left (by simp;omega),List.getElem?_map,e1];rfl
 .rw[List.getElem?_append_right (by omega),List.getElem?_replicate] at e;split at e
  .cases e;exact .inl ⟨rfl,h.no i (by omega)⟩
  .cases e
theorem zaZ {P:Program} {w:World} {K:PySem.W.Frag} {mg:Str->Option Value} {base:Heap} {x:Str} {st:Stmt} {N ps:List Str} {k n:Nat} {ms:List Bool} {S:SF} (d:∃f fd,Fun K x x st f fd/\mg x=some (.ref f))
  (hb:∀(kV doc pm:Value) (an:Option Addr) (cdv ct:Value) (us:List Value),us.length=ps.length->bindArgs (PySem.W.fnOf x x (zei st) (zcM st) (zam st) .none kV doc pm an cdv ct) ⟨us,[]⟩=pure (ps.zip us))
  (sc:zay N ps (zam st)) (hms:ms.length=ps.length) (hn:N.length=n) (hpn:ps.length<=n)
  (body:∀(f:Addr) (cdv:Value) (A:Around) (outer:List Env) (s:Shared) (H:Hp) (E:XK),Room k (A.deeper (envOfC x (zam st) s.heap.objs.size f cdv))->
   VSs (cxOf (CXF P w base) P w K mg base N x (zam st) f cdv A outer s H E) E (zhY 0 ms) (zcM st) S):VDef P w K mg base x ps (k+1) ms (runF ms n S):=by
 subst hn;refine zkB d hb sc (fun vs H Q E h=>h.1.trans hms) fun f cdv A outer s H vs Q E hr h=>⟨_,body f cdv A outer s H E hr, ?_⟩
 obtain ⟨hl,W,os,g,hd,sb,dm,q⟩:=h;have s0:=zj1 (N:=N) hd (by omega);have hlo:=hd.len;refine tS.mk ⟨s0,sb,dm⟩ ?_;have held:∀{σ':St} {ρ':Rho} {H':Hp} {W':Addr->Prop} {f':Fp},Sl mg K H' W' σ' ρ' f'->Held (zhY 0 ms) (start N vs) σ'->Hd mg K H' W' (zf9 ms vs) (zc4 ms ρ') (zfR ms f')/\∀x,Inn (zfR ms f') x->Inn f' x:=fun {σ' ρ' H' W' f'} s' l'=>
  zn4 (k:=0) s'.sl s'.fam (by rw[s'.len,l'.1];unfold start;simp;omega) hl fun i v e1 e2=>by
   have:=l'.2 i (by have:=zk0 (k:=0) e1;rwa [Nat.zero_add] at this)
   rw[this];unfold start;have hi:i < vs.length:=(List.getElem?_eq_some_iff.mp e2).1;rw[List.getElem?_append_left (by simpa using hi),List.getElem?_map,e2];rfl
 unfold runF at q
 cases a:S (os++List.replicate (N.length - os.length) .z) with
 | bad=>rw[a] at q;exact q
 | br ρ'=>rw[a] at q;exact False.elim q
 | ct ρ'=>rw[a] at q;exact False.elim q
 | nx ρ'=>
  rw[a] at q;intro σ' H' W' f' s' m' l';obtain ⟨h1,h2⟩:=held s' l';exact q .non H' W' [] _ (.d .non) List.nodup_nil h1 (fun x z=>nomatch z) (m'.narrow fun x hx=>hx.elim (h2 x) fun z=>nomatch z)
 | rt o ρ'=>
  rw[a] at q;intro v σ' H' W' f' B s' ow nd ap m' l';obtain ⟨h1,h2⟩:=held s' l';exact q v H' W' B _ ow nd h1 (fun x hx z=>ap x hx (h2 x z)) (m'.narrow fun x hx=>hx.imp (h2 x) id)
 | ex c ρ'=>
  rw[a] at q;intro σ' H' W' f' s' m' l';obtain ⟨h1,h2⟩:=held s' l';exact q H' W' _ h1 (m'.narrow h2)
end
end L2
namespace L2
open PySem PySem.Spec PySem.Calls PyProof.Rows
section
variable {X:Cx} {E:XK} {L:List Nat} {elt tgt iter:Expr} {ifs:List Expr} {scope:Scope} {pos:Pos} {N':List Str} {js:List (Option Nat)} {G:GF} {T:TF} {A A0:EF}
abbrev Blk (X:Cx) (N':List Str) (scope:Scope) (js:List (Option Nat)) (tgt:Expr) (ifs:List Expr) (elt:Expr) (G:GF) (T:TF) (A:EF):Prop:=∀(s':Shared) (H':Hp) (ex:List Addr),
 VG (blk X N' scope s' H' ex) (capL js) tgt G/\PF (blk X N' scope s' H' ex) ifs (tT X.mg X.K E0' T)/\VR (blk X N' scope s' H' ex) E0' elt A
theorem zfE {p cpos:Pos} {e:Expr} (hi:VR X E e A0) (hgl:Gl X "range") (hm:X.mg "range"=none) (hc:X.calm=true) (hcap:zh1 X.N X.env.scope N' scope js=true) (hf:zfn X.env.scope scope=true) (hkind:scope.kind=.function) (nd:(caps js).Nodup)
  (hb:Blk X N' scope js tgt ifs elt G T A) (hst:starEach [e] X.env=[(false,eval e X.env)]:=by rfl)
  (hs:∀x,foldedSetIterable (.Call (.Name "range" p) [e] [] cpos) X.env x=pure x:=by intro _;rfl):VR X E (.ListComp elt [⟨tgt,.Call (.Name "range" p) [e] [] cpos,ifs,0⟩] scope pos) (eLC (itR1 A0) js G T A):=
 (zox hc (zgl hgl hm (zcL hi zdG hst) hst) hcap ziG hf hkind hb hs).imp fun σ H Q h=>zpR nd h
theorem zq7 {wi:TI} {te:TE} {tt:TT} {g:TG} {B:EF} {i:Nat} {D:Ends} {σ:St} {H:Hp} (hL:i∉L) (lc:∀{Q:VK},tR X.mg X.K E B σ H Q->tLC wi js g tt te σ H Q) (h:tS X.mg X.K E L (sAsg coe B (gtN i)) D σ H):tAsg (tLC wi js g tt te) (zkn i) D σ H:=
 lc (tR.mono (zlI zag h) fun v H1 hx__=>by
  obtain ⟨W,ρ,f,o,B,ρ',sl,ow,nd,ap,sb,dm,e,q⟩:=hx__;unfold gtN at e
  by_cases hi:i < ρ.length
  .rw[if_pos hi] at e;cases e;exact q _ _ (sl.bind i ow nd ap hi) (fun x hx=>hx.set) (zgc hL)
  .rw[if_neg hi] at e;cases e)
theorem zmk {p cpos:Pos} {e:Expr} {i:Nat} {y:Str} {py spos:Pos} (hN:X.N.Nodup) (hiy:X.N[i]? = some y) (hy:Loc X.env.scope y) (hL:i∉L) (hi:VR X E e A0) (hgl:Gl X "range") (hm:X.mg "range"=none) (hc:X.calm=true) (hcap:zh1 X.N X.env.scope N' scope js=true) (hf:zfn X.env.scope scope=true) (hkind:scope.kind=.function) (nd:(caps js).Nodup) (hb:Blk X N' scope js tgt ifs elt G T A)
  (hst:starEach [e] X.env=[(false,eval e X.env)]:=by rfl)
  (hsw:swapsWith (.ListComp elt [⟨tgt,.Call (.Name "range" p) [e] [] cpos,ifs,0⟩] scope pos) (some (.Name y py)) spos.line X.env=pure true:=by rfl) (hs:∀x,foldedSetIterable (.Call (.Name "range" p) [e] [] cpos) X.env x=pure x:=by intro _;rfl) (hfn:X.fn y=true\/X.env.scope.names.lookup y=some .local:=by first | exact .inl rfl | exact .inr rfl | assumption) :
  VS X E L (.Assign [.Name y py] (.ListComp elt [⟨tgt,.Call (.Name "range" p) [e] [] cpos,ifs,0⟩] scope pos) spos) (sAsg coe (eLC (itR1 A0) js G T A) (gtN i)):=
 (zjX hN hiy hy hc (zgl hgl hm (zcL hi zdG hst) hst) hcap ziG hf hkind hb hsw hs hfn).imp fun D σ H h=>zq7 hL (fun h=>zpR nd h) h
end
section
variable {X:Cx} {E:XK}
def decS:O->Option Str
 | .d (.str s)=>some s
 | _=>none
end
theorem Room.units65 {k:Nat} {A:Around} (r:Room k A):A.units+65 < cLine:=by have:=r.un;omega
section
variable {X:Cx} {E:XK}
theorem zrp {o:Expr} {A:EF} {apos cpos:Pos} (ho:VR X E o A) (h:∀{t:TE},PE X o t->PE X (.Call (.Attribute o "bit_length" apos) [] [] cpos) (tBM0 X.K "int" (fun x xs H Q=>∃i,x=.int i/\xs=[]/\Q (.int (Builtin.Int.intBits i)) H) t)) :
  VR X E (.Call (.Attribute o "bit_length" apos) [] [] cpos) (e1 A zkp):=zo7 ho (h ho)
theorem zed {c e:Expr} {C A:EF} {apos cpos:Pos} (hc:VR X E c C) (he:VR X E e A) (h:∀{to t:TE},PE X c to->PE X e t->PE X (.Call (.Attribute c "append" apos) [e] [] cpos) (tBM X.K "list" zjv to (zml t tNil))):VR X E (.Call (.Attribute c "append" apos) [e] [] cpos) (eApp C A):=zrD hc he (h hc he)
end
def zjB (K:PySem.W.Frag):Sp:=fun vs H Q _=>∃(a:Addr) (ns:List Int),vs=[.ref a]/\SqL K H a (ns.map V.int)/\ns.length<=63/\∀H',Q (.bl true) H'
theorem zpe {K:PySem.W.Frag} {H:Hp} {a:Addr} {ns:List Int} (hl:ns.length<=63) (_:Only H) (hS:SqL K H a (ns.map V.int)):zjB K [.ref a] H (fun v _=>v=.bl true) fun _ _ _=>False:=⟨a,ns,rfl,hS,hl,fun _=>rfl⟩
theorem zqa {P:Program} {w:World} {K:PySem.W.Frag} {mg:Str->Option Value} {base:Heap} {x p:Str} {st:Stmt} {N:List Str} {k n:Nat} {S:SF} (d:∃f fd,Fun K x x st f fd/\mg x=some (.ref f))
  (hb:∀(kV doc pm:Value) (an:Option Addr) (cdv ct:Value) (us:List Value),us.length=[p].length->bindArgs (PySem.W.fnOf x x (zei st) (zcM st) (zam st) .none kV doc pm an cdv ct) ⟨us,[]⟩=pure ([p].zip us))
  (sc:zay N [p] (zam st)) (hn:N.length=n) (hpn:1<=n)
  (body:∀(f:Addr) (cdv:Value) (A:Around) (outer:List Env) (s:Shared) (H:Hp) (E:XK),Room k (A.deeper (envOfC x (zam st) s.heap.objs.size f cdv))->
   VSs (cxOf CX0 P w K mg base N x (zam st) f cdv A outer s H E).nox E0' [] (zcM st) S)
  (hF:∀ns:List Int,ns.length<=63->∃ρ',S (.q (ns.map V.int)::List.replicate (n - 1) .z)=.rt (.d (.bool true)) ρ'):zj0 P w K mg base x [p] (k+1) (zjB K):=by
 subst hn;refine zl4 d hb sc (fun vs H Q E ⟨a,ns,e,_⟩=>by rw[e];rfl) fun f cdv A outer s H vs Q E hr h=>⟨_,body f cdv A outer s H E hr, ?_⟩
 obtain ⟨a,ns,rfl,hS,hl,k⟩:=h;obtain ⟨ρ',e⟩:=hF ns hl;have hd:Hd mg K H (fun _=>False) [.ref a] [.q (ns.map V.int)] (ziy [] fun _=>[]):=.cons (.q (hS.imp (fun z=>⟨z,fun z=>z⟩) id)) List.nodup_nil .nil fun x z=>nomatch z
 have s0:=zj1 (N:=N) hd (by simpa using hpn);refine tS.mk ⟨s0,fun x hx=>?_,fun x z=>z.elim⟩ ?_
 .rcases inn_cons.mp hx with z | ⟨_,z⟩<;>cases z
 .rw[show ([O.q (ns.map V.int)]++List.replicate (N.length - [O.q (ns.map V.int)].length) O.z)=.q (ns.map V.int)::List.replicate (N.length - 1) .z from rfl,e];intro v σ' H' W' f' B s' ow nd ap m' l';rw[ow.bl];exact k H'
def cov (ρ:Rho) (r:Rv):Option (List PyData×Bool×Rho):=match coe ρ r with
 | some (o,ρ2)=>match fz o with
  | some (.list ds)=>some (ds,true,ρ2)
  | some (.tuple ds)=>some (ds,false,ρ2)
  | _=>none
 | none=>none
def zf7 (ρ:Rho):Rv->Option (List PyData×Bool×Nat×O)
 | .own _=>none
 | .at i p=>match ρ[i]? with
  | some oi=>match sub p oi with
   | some (.l os)=>match lds os with
    | some ds=>some (ds,true,i,oi)
    | none=>none
   | some (.t os)=>match lds os with
    | some ds=>some (ds,false,i,oi)
    | none=>none
   | _=>none
  | none=>none
theorem zqf {mg:Str->Option Value} {K:PySem.W.Frag} {H:Hp} {W:Addr->Prop} {σ:St} {ρ ρ':Rho} {f:Fp} {r:Rv} {v:V} {B:List Addr} {ds:List PyData} {k:Bool} (s:Sl mg K H W σ ρ f) (sb:∀x,Inn f x->W x) (h:RvOk mg K H W σ v r B) (hB:∀x∈B,W x/\¬Inn f x) (e:cov ρ r=some (ds,k,ρ')) :
  ∃a xs W' f',v=.ref a/\H a=some (if k then .lst xs else .tup xs)/\¬W' a/\Dns H W' xs ds/\Sl mg K H W' σ ρ' f'/\(∀x,W' x->W x)/\(∀x,W x->(Inn f x\/x∈B)\/W' x)/\(∀x,Inn f' x->Inn f x)/\(∀x,Inn f' x->W' x):=by
 unfold cov at e
 cases b:coe ρ r with
 | none=>rw[b] at e;cases e
 | some z=>
  obtain ⟨o,ρ2⟩:=z;rw[b] at e;dsimp only at e;obtain ⟨W2,f2,s2,g2,As,ow,nd2,in2⟩:=zgn s sb h b;have hA:∀x∈As,¬Inn f2 x:=fun x hx z=>(hB x (in2 x hx)).2 (g2.ours x z)
  have s3:Sl mg K H (fun x=>W2 x/\x∉As) σ ρ2 f2:=s2.on (DMv.weak fun _ z=>z.1) fun _ _=>rfl
  have more:∀x,W x->(Inn f x\/x∈B)\/(W2 x/\x∉As):=fun x w=>by
   by_cases y:x∈As
   .exact .inl (.inr (in2 x y))
   .exact (g2.more x w).imp .inl fun u=>⟨u,y⟩
  cases c:fz o with
  | none=>rw[c] at e;cases e
  | some x=>
   rw[c] at e
   cases x with
   | list xs=>
    cases e
    cases (ow.dn (W':=fun x=>W2 x/\x∉As) (fun _ z=>z.1) c fun x hx z=>z.2 hx) with
    | lst n hh t=>exact ⟨_,_,_,f2,rfl,hh,n,t,s3,fun x z=>g2.less x z.1,more,g2.ours,fun x hx=>⟨g2.sub x hx,fun z=>hA x z hx⟩⟩
   | tuple xs=>
    cases e
    cases (ow.dn (W':=fun x=>W2 x/\x∉As) (fun _ z=>z.1) c fun x hx z=>z.2 hx) with
    | tup n hh t=>exact ⟨_,_,_,f2,rfl,hh,n,t,s3,fun x z=>g2.less x z.1,more,g2.ours,fun x hx=>⟨g2.sub x hx,fun z=>hA x z hx⟩⟩
   | _=>cases e
abbrev Src:=List O×Option (Nat×O)
def srcM (view:Bool) (mk:List PyData->List O) (A:EF):Rho->Re (Src×Bool):=fun ρ=>(A ρ).bind fun r ρ1 q=>match (if view then zf7 ρ1 r else none) with
 | some (ds,k,i,oi)=>.ok ((mk ds,some (i,oi)),k) (ρ1.set i .z) q
 | none=>match cov ρ1 r with
  | some (ds,k,ρ2)=>.ok ((mk ds,none),k) ρ2 q
  | none=>.bad
def ziT:Option (Nat×O)->Rho->Rho
 | none,ρ=>ρ
 | some (i,o),ρ=>ρ.set i o
section
variable {mg:Str->Option Value} {K:PySem.W.Frag} {E:XK}
def Kept (mg:Str->Option Value) (K:PySem.W.Frag) (σ:St) (H0:Hp) (f0:Fp) (H:Hp) (W:Addr->Prop) (f:Fp):Option (Nat×O)->Prop
 | none=>True
 | some (i,o)=>∃u C,σ[i]? = some (some u)/\Ow mg K H W u o C/\C.Nodup/\∀x∈C,W x/\¬Inn f x/\(Inn f0 x\/H0 x=none)
def kSrc (mg : Str -> Option Value) (K : PySem.W.Frag) (E : XK) (mk : List PyData -> List O) (σ : St) (H : Hp) (W : Addr -> Prop) (f : Fp) (R : V -> Hp -> Prop) : Re (Src × Bool) -> Prop
  | .bad => False
  | .ex c ρ' => ∀ H' W' f', Sl mg K H' W' σ ρ' f' -> Mv (Inn f) H W (Inn f') H' W' -> XW mg K E c H'
  | .ok ((items, rs), k) ρ' q => ∀ a xs ds H' W' f', Sl mg K H' W' σ ρ' f' -> Mv (Inn f) H W (Inn f') H' W' -> (q = true -> ∀ x, Inn f x -> H' x = H x) -> H' a = some (if k then .lst xs else .tup xs) -> Dns H' W' xs ds -> items = mk ds ->
          (∀ H2 W2 A2, Mv (Inn f') H' W' A2 H2 W2 -> H2 a = H' a) -> Kept mg K σ H f H' W' f' rs -> R (.ref a) H'
theorem srcd {view:Bool} {mk:List PyData->List O} {A:EF} {σ:St} {H:Hp} {W:Addr->Prop} {ρ:Rho} {f:Fp} {R:V->Hp->Prop} (ok:Ok mg K H W σ ρ f)
  (q:kSrc mg K E mk σ H W f R (srcM view mk A ρ)) :
  tR mg K E A σ H R:=by
 refine ⟨W,ρ,f,ok, ?_⟩;unfold srcM at q
 cases a:A ρ with
 | bad=>rw[a] at q;exact q
 | ex c ρ'=>rw[a] at q;exact q
 | ok r ρ1 k0=>
  rw[a] at q;dsimp only[Re.bind] at q ⊢;intro v H1 W1 f1 B s1 r1 n1 m1 k1;have viaCov:(match cov ρ1 r with
    | some (ds,k,ρ2)=>(Re.ok ((mk ds,none),k) ρ2 k0:Re (Src×Bool))
    | none=>.bad)=(match (if view then zf7 ρ1 r else none) with
    | some (ds,k,i,oi)=>.ok ((mk ds,some (i,oi)),k) (ρ1.set i .z) k0
    | none=>match cov ρ1 r with
     | some (ds,k,ρ2)=>.ok ((mk ds,none),k) ρ2 k0
     | none=>.bad)->R v H1:=fun e=>by
   rw[<-e] at q
   cases c:cov ρ1 r with
   | none=>rw[c] at q;exact False.elim q
   | some z=>
    obtain ⟨ds,k,ρ2⟩:=z;rw[c] at q;obtain ⟨b,xs,W2,f2,rfl,h1,h2,h3,h4,h5,h6,h7,h8⟩:=zqf s1 (fun x hx=>m1.sub' x (.inl hx)) r1 (fun x hx=>⟨m1.sub' x (.inr hx),n1 x hx⟩) c;refine q b xs ds H1 W2 f2 h4 (m1.trans ⟨fun _ _ h _=>h,fun x h=>.inl (h5 x h),h6,fun x h=>.inl (.inl (h7 x h)),m1.sub',m1.dom',h8,fun x h=>m1.dom' x (h5 x h)⟩) k1 h1 h3 rfl (fun H2 W2' A2 m=>?_) trivial;rw[(m.d b _ h1 h2).1,h1]
  cases view with
  | false=>exact viaCov rfl
  | true=>
   rw[if_pos rfl] at q viaCov
   cases c:zf7 ρ1 r with
   | none=>rw[c] at viaCov;exact viaCov rfl
   | some z=>
    obtain ⟨ds,k,i,oi⟩:=z;rw[c] at q;dsimp only at q
    cases r with
    | own o=>cases c
    | «at» j p=>
     rw[zf7] at c
     cases c1:ρ1[j]? with
     | none=>rw[c1] at c;cases c
     | some oj=>
      rw[c1] at c;dsimp only at c;have c2:∃n os,sub p oj=some n/\els n=some (k,os)/\lds os=some ds/\j=i/\oj=oi:=by
       split at c
       .rename_i os e
        cases e2:lds os with
        | none=>rw[e2] at c;cases c
        | some y=>rw[e2] at c;cases c;exact ⟨_,os,e,rfl,e2,rfl,rfl⟩
       .rename_i os e
        cases e2:lds os with
        | none=>rw[e2] at c;cases c
        | some y=>rw[e2] at c;cases c;exact ⟨_,os,e,rfl,e2,rfl,rfl⟩
       .cases c
      obtain ⟨n,os,e1,e2,e3,rfl,rfl⟩:=c2;obtain ⟨_,u,h1,h2⟩:=r1;rcases s1.sl j oj c1 with ⟨rfl,_⟩ | ⟨u',g1,ow⟩
      .cases p with
       | nil=>cases e1;cases e2
       | cons=>cases e1
      .rw[h1] at g1;cases g1;obtain ⟨w,D,k1',k2,k3⟩:=ow.sub e1
       cases k1'.inj h2
       obtain ⟨b,vs,rfl,hb,dn⟩:=k2.items e2 e3;have hz:Sl mg K H1 W1 σ (ρ1.set j .z) (fset f1 j []):=s1.setZ;have sbz:∀x,Inn (fset f1 j []) x->Inn f1 x:=fun x hx=>hx.set.elim id fun z=>nomatch z
       have outz:∀x∈f1 j,¬Inn (fset f1 j []) x:=fun x hx hx__=>by
        obtain ⟨l,hl⟩:=hx__
        by_cases q:l=j
        .subst q;rw[zbt] at hl;cases hl
        .rw[zbU q] at hl;exact s1.fam.ap l j q x hl hx
       refine q b vs ds H1 W1 (fset f1 j []) hz (m1.narrow fun x hx=>.inl (sbz x hx)) k1 hb dn rfl (fun H2 W2 A2 m=>?_) ⟨u,f1 j,h1,ow,s1.fam.nd j,fun x hx=>⟨m1.sub' x (.inl ⟨j,hx⟩),outz x hx,m1.ours x (.inl ⟨j,hx⟩)⟩⟩
       by_cases hw:W1 b
       .have hbn:¬Inn (fset f1 j []) b:=by
         -- a list that is znp is not another name's
         cases n with
         | l us=>
          cases k2 with
          | l _ _=>exact outz b (k3.subset List.mem_cons_self)
         | t us=>cases k2 with | t nw _ _=>exact absurd hw nw
         | d x=>
          cases k2 with
          | d hd=>cases hd with
           | lst nw _ _=>exact absurd hw nw
           | tup nw _ _=>exact absurd hw nw
           | _=>cases e2
         | _=>cases e2
        exact (m.hand hw hbn).2
       .rw[(m.d b _ hb hw).1,hb]
theorem Kept.back {σ:St} {H0 H1 H2:Hp} {W1 W2:Addr->Prop} {f0 f1 f2:Fp} {A2:Addr->Prop} {rs:Option (Nat×O)} {ρ:Rho} {W0:Addr->Prop} (k:Kept mg K σ H0 f0 H1 W1 f1 rs) (m:Mv (Inn f1) H1 W1 A2 H2 W2) (hA:∀x,Inn f2 x->A2 x) (s:Sl mg K H2 W2 σ ρ f2) (m0:Mv (Inn f0) H0 W0 (Inn f1) H1 W1) :
  ∃f3,Sl mg K H2 W2 σ (ziT rs ρ) f3/\(∀x,A2 x->¬Inn f2 x->¬Inn f3 x)/\Mv (Inn f0) H0 W0 (fun x=>Inn f3 x\/A2 x) H2 W2:=by
 cases rs with
 | none=>exact ⟨f2,s,fun x _ h=>h,(m0.trans m).narrow fun x hx=>hx.elim (hA x) id⟩
 | some z=>
  obtain ⟨i,o⟩:=z;obtain ⟨u,C,h1,h2,h3,h4⟩:=k;have keep:∀x∈C,W2 x/\H2 x=H1 x:=fun x hx=>m.hand (h4 x hx).1 (h4 x hx).2.1
  have away:∀x∈C,¬A2 x:=fun x hx=>m.apart (h4 x hx).1 (h4 x hx).2.1
  refine ⟨fset f2 i C,s.setS h1 (h2.on m.d fun x hx=>(keep x hx).2) h3 fun x hx j _ z=>away x hx (hA x ⟨j,z⟩),fun x ha hn z=>z.set.elim hn fun y=>away x y ha, ?_⟩;have mm:=m0.trans m;exact ⟨mm.same,mm.less,mm.more,fun x hx=>hx.elim (fun z=>z.set.elim (fun y=>mm.ours x (hA x y)) fun y=>(h4 x y).2.2) (mm.ours x),mm.sub,mm.dom,fun x hx=>hx.elim (fun z=>z.set.elim (fun y=>mm.sub' x (hA x y)) fun y=>(keep x y).1) (mm.sub' x),mm.dom'⟩
end
def eLS (I:Rho->Re (Src×Bool)) (js:List (Option Nat)) (G:GF) (T:TF) (A:EF):EF:=fun ρ=>match I ρ with
 | .bad=>.bad
 | .ex c ρ'=>.ex c ρ'
 | .ok ((items,rs),_) ρ1 q1=>if items.length<=sizeLine then match lcF js G T A items ρ1 [] true with
   | .ok os ρ2 q2=>.ok (.own (.l os)) (ziT rs ρ2) (q1&&q2)
   | _=>.bad
  else .bad
def iLT (K:PySem.W.Frag) (tl:TE):TI:=fun σ H R=>tl σ H fun x H1=>∃(a:Addr) (xs:List V) (k:Bool),x=.ref a/\H1 a=some (if k then .lst xs else .tup xs)/\R (if k then ItL a else Itt K a) H1
theorem zo2 {X:Cx} {tg l:Expr} {tl:TE} (hl:PE X l tl):PI X tg l (iLT X.K tl):=by
 intro pins s σ H R I h;refine thn (hl pins s σ H _ I h) fun v s1 hx__=>?_
 obtain ⟨x,H1,I1,r1,q1⟩:=hx__;obtain ⟨a,xs,k,e,hq,q⟩:=q1;subst e;cases r1
 cases k with
 | true=>
  obtain ⟨its,rv,p,hz⟩:=I1.list (SqL.of hq);refine wpAny_pyIter_list p.isList ?_;refine ⟨s1.heap.objs.size,[s1.heap.objs.size],_,ItL a,H1,rfl,I1.kept (t':=s1.toks) (fun b o e=>Heap.get?_push_of_some _ e),zrN a _,⟨_,Heap.get?_push_size _ rfl,rfl,rfl⟩,fun b hb=>?_,q⟩;obtain rfl:b=s1.heap.objs.size:=by simpa using hb
  exact I1.fpOk (Nat.le_refl _) (I1.hok.fresh (Nat.le_refl _))
 | false=>
  obtain ⟨its,rv,p,hz⟩:=I1.tuple (SqT.of hq);refine wpAny_pyIter_tuple (show s1.heap.IsTuple a its.toArray from p) ?_;refine ⟨s1.heap.objs.size,[s1.heap.objs.size],_,_,H1,rfl,I1.kept (t':=s1.toks) fun b o e=>Heap.get?_push_of_some _ e,zky a _,⟨_,Heap.get?_push_size _ rfl,rfl,rfl⟩,fun b hb=>?_,q⟩;have e:b=s1.heap.objs.size:=by simpa using hb
  subst e;exact I1.fpOk (Nat.le_refl _) (I1.hok.fresh (Nat.le_refl _))
section
variable {mg:Str->Option Value} {K:PySem.W.Frag} {E:XK}
theorem zrb {a:Addr} {xs:List V} {ds:List PyData} {k:Bool} {H1:Hp} {W1:Addr->Prop} {f1:Fp} (ha:H1 a=some (if k then .lst xs else .tup xs)) (dn:Dns H1 W1 xs ds) (st:∀H2 W2 A2,Mv (Inn f1) H1 W1 A2 H2 W2->H2 a=H1 a) :
  (∀i H W',(∃A',Mv (Inn f1) H1 W1 A' H W')->i < (ds.map O.d).length->(if k then ItL a else Itt K a).go i H)/\(∀H W',(∃A',Mv (Inn f1) H1 W1 A' H W')->(if k then ItL a else Itt K a).stop (ds.map O.d).length H)/\
  (∀i H W' x H',(∃A',Mv (Inn f1) H1 W1 A' H W')->(∀x,W' x->H x≠none)->i < (ds.map O.d).length->(if k then ItL a else Itt K a).yld i H x H'->Gr H W' [] H' W'/\∃o,(ds.map O.d)[i]? = some o/\Ow mg K H' W' x o []):=by
 refine ⟨fun i H2 W2 ⟨_,mm⟩ hi=>?_,fun H2 W2 ⟨_,mm⟩=>?_,fun i H2 W2 x H3 ⟨_,mm⟩ dd hi y=>?_⟩
 .rw[List.length_map,<-dn.length] at hi;have e:=(st H2 W2 _ mm).trans ha
  cases k with
  | true=>exact ⟨xs,xs[i],e,by simp[hi]⟩
  | false=>exact ⟨xs,xs[i],SqT.of e,by simp[hi]⟩
 .have e:=(st H2 W2 _ mm).trans ha
  cases k with
  | true=>exact ⟨xs,e,by rw[List.length_map,dn.length];exact Nat.le_refl _⟩
  | false=>exact ⟨xs,SqT.of e,by rw[List.length_map,dn.length];exact Nat.le_refl _⟩
 .have e:=(st H2 W2 _ mm).trans ha
  have:H3=H2/\xs[i]? = some x:=by
   cases k with
   | true=>exact ⟨y.1,y.2 xs e⟩
   | false=>exact ⟨y.1,y.2 xs (SqT.of e)⟩
  obtain ⟨rfl,hx⟩:=this;obtain ⟨d,e1,e2⟩:=dn.getV hx;exact ⟨.refl,.d d,by rw[List.getElem?_map,e1];rfl,.d (e2.on mm.d)⟩
theorem zog {σ:St} {H:Hp} {W:Addr->Prop} {ρ ρ2:Rho} {f f1:Fp} {Q:VK} {os:List O} {H1:Hp} {W1:Addr->Prop} {q1 q2:Bool} {rs:Option (Nat×O)} (ok:Ok mg K H W σ ρ f) (m1:Mv (Inn f) H W (Inn f1) H1 W1) (k1:q1=true->∀x,Inn f x->H1 x=H x) (kp:Kept mg K σ H f H1 W1 f1 rs)
  (q:∀v H' W' f' B,Sl mg K H' W' σ (ziT rs ρ2) f'->RvOk mg K H' W' σ v (.own (.l os)) B->(∀x∈B,¬Inn f' x)->Mv (Inn f) H W (fun x=>Inn f' x\/x∈B) H' W'->((q1&&q2)=true->∀x,Inn f x->H' x=H x)->Q v H') :
  ∀l acc H' W' f' As,H' l=none->Sl mg K H' W' σ ρ2 f'->Ows mg K H' W' acc os As->As.Nodup->(∀x∈As,¬Inn f' x)->Mv (Inn f1) H1 W1 (fun x=>Inn f' x\/x∈As) H' W'->(q2=true->∀x,Inn f1 x->H' x=H1 x)->Q (.ref l) (upd H' l (.lst acc)):=fun l acc H' W' f' As hl s o nd ap m k=>by
 obtain ⟨f3,s3,ap3,m3⟩:=kp.back m (fun x hx=>.inl hx) s m1;have g:Gr H' W' [l] (upd H' l (.lst acc)) (fun x=>W' x\/x∈[l]):=Gr.newO hl;have hlA:l∉As:=fun z=>m.dom' l (m.sub' l (.inr z)) hl
 have sub3:∀x,Inn f3 x->W' x:=fun x hx=>m3.sub' x (.inl hx)
 refine q (.ref l) _ _ f3 (l::As) (s3.on g.d fun x hx=>g.kept m.dom' (sub3 x hx)) ⟨.l zbG (o.on g.d fun x hx=>g.kept m.dom' (m.sub' x (.inr hx))),List.nodup_cons.mpr ⟨hlA,nd⟩⟩ (fun x hx z=>?_) ((m3.trans (g.mv m3.sub' m3.dom')).narrow fun x hx=>?_) fun hq=>g.quiet ok (zg5 ok k1 m k hq)
 .rcases List.mem_cons.mp hx with rfl | hx
  .exact m.dom' x (sub3 x z) hl
  .exact ap3 x (.inr hx) (ap x hx) z
 .rcases hx with hx | hx
  .exact .inl (.inl hx)
  .rcases List.mem_cons.mp hx with rfl | hx
   .exact .inr List.mem_cons_self
   .exact .inl (.inr (.inr hx))
theorem lc_S {view:Bool} {A0 A:EF} {js:List (Option Nat)} {G:GF} {T:TF} {σ:St} {H:Hp} {Q:VK} (nd:(caps js).Nodup) (h:tR mg K E (eLS (srcM view (fun ds=>ds.map O.d) A0) js G T A) σ H Q):tLC (iLT K (tR mg K E A0)) js (tTg mg K (capL js) G) (tT mg K E0' T) (tR mg K E0' A) σ H Q:=by
 obtain ⟨W,ρ,f,ok,q⟩:=h;refine srcd (view:=view) (mk:=fun ds=>ds.map O.d) ok ?_;unfold eLS at q
 cases ea:srcM view (fun ds=>ds.map O.d) A0 ρ with
 | bad=>rw[ea] at q;exact q
 | ex c ρ'=>rw[ea] at q;exact q
 | ok z ρ1 q1=>
  obtain ⟨⟨items,rs⟩,kd⟩:=z;rw[ea] at q;dsimp only at q ⊢;intro a xs ds H' W' f' s m k ha dn hit st kp
  by_cases hz:items.length<=sizeLine
  .rw[if_pos hz] at q
   cases b:lcF js G T A items ρ1 [] true with
   | bad=>rw[b] at q;exact False.elim q
   | ex c ρ'=>rw[b] at q;exact False.elim q
   | ok os ρ2 q2=>
    rw[b] at q;subst hit;obtain ⟨g1,g2,g3⟩:=zrb (mg:=mg) (K:=K) ha dn st;exact ⟨a,xs,kd,rfl,ha,zjj (items:=ds.map O.d) (.next s m fun _ z=>z) nd (fun k i=>zgh) hz g1 g2 g3 b (zog ok m k kp q)⟩
  .rw[if_neg hz] at q;exact False.elim q
end
section
variable {X:Cx} {E:XK} {L:List Nat} {elt tgt iter:Expr} {ifs:List Expr} {scope:Scope} {pos:Pos} {N':List Str} {js:List (Option Nat)} {G:GF} {T:TF} {A A0:EF} {view:Bool}
theorem ziB (view:Bool) (hi:VR X E iter A0) (hc:X.calm=true) (hcap:zh1 X.N X.env.scope N' scope js=true) (hf:zfn X.env.scope scope=true) (hkind:scope.kind=.function) (nd:(caps js).Nodup) (hb:Blk X N' scope js tgt ifs elt G T A)
  (hs:∀x,foldedSetIterable iter X.env x=pure x:=by intro _;rfl):VR X E (.ListComp elt [⟨tgt,iter,ifs,0⟩] scope pos) (eLS (srcM view (fun ds=>ds.map O.d) A0) js G T A):=
 (zox hc (zo2 hi) hcap ziG hf hkind hb hs).imp fun σ H Q h=>lc_S nd h
theorem zpm (view:Bool) {i:Nat} {y:Str} {py spos:Pos} (hN:X.N.Nodup) (hiy:X.N[i]? = some y) (hy:Loc X.env.scope y) (hL:i∉L) (hi:VR X E iter A0) (hc:X.calm=true) (hcap:zh1 X.N X.env.scope N' scope js=true) (hf:zfn X.env.scope scope=true) (hkind:scope.kind=.function) (nd:(caps js).Nodup) (hb:Blk X N' scope js tgt ifs elt G T A)
  (hsw:swapsWith (.ListComp elt [⟨tgt,iter,ifs,0⟩] scope pos) (some (.Name y py)) spos.line X.env=pure true:=by rfl) (hs:∀x,foldedSetIterable iter X.env x=pure x:=by intro _;rfl) (hfn:X.fn y=true\/X.env.scope.names.lookup y=some .local:=by first | exact .inl rfl | exact .inr rfl | assumption) :
  VS X E L (.Assign [.Name y py] (.ListComp elt [⟨tgt,iter,ifs,0⟩] scope pos) spos) (sAsg coe (eLS (srcM view (fun ds=>ds.map O.d) A0) js G T A) (gtN i)):=
 (zjX hN hiy hy hc (zo2 hi) hcap ziG hf hkind hb hsw hs hfn).imp fun D σ H h=>zq7 hL (fun h=>lc_S nd h) h
def zhO (I:Rho->Re (Src×Bool)) (G:GF) (S:SF):SF:=fun ρ=>match I ρ with
 | .bad=>.bad
 | .ex c ρ'=>.ex c ρ'
 | .ok ((items,_),_) ρ' _=>forF G S items ρ'
theorem zhu {body:List Stmt} {S:SF} (hp:PassesOwn (model X.prog X.w) X.A X.env X.xe) (hc:X.calm=true) (hi:VR X E iter A) (hg:VG X L tgt G) (hb:VSs X E L body S)
  (hs:∀x,foldedSetIterable iter X.env x=pure x:=by intro _;rfl):VS X E L (.For tgt iter body [] pos) (zhO (srcM false (fun ds=>ds.map O.d) A) G S):=(zlB hp hc (zo2 hi) hg hb hs).imp fun D σ H h=>by
 obtain ⟨W,ρ,f,ok,q⟩:=h.aft;refine srcd (view:=false) (mk:=fun ds=>ds.map O.d) ok ?_;unfold zhO at q
 cases ea:srcM false (fun ds=>ds.map O.d) A ρ with
 | bad=>rw[ea] at q;exact q
 | ex c ρ'=>rw[ea] at q;exact fun H' W' f' s m=>q σ H' W' f' s m .refl
 | ok z ρ1 q1=>
  obtain ⟨⟨items,rs⟩,kd⟩:=z;rw[ea] at q;dsimp only at q ⊢;intro a xs ds H' W' f' s m k ha dn hit st kp;subst hit;obtain ⟨g1,g2,g3⟩:=zrb (mg:=X.mg) (K:=X.K) ha dn st;exact ⟨a,xs,kd,rfl,ha,zhg (items:=ds.map O.d) (.next s m fun _ z=>z) g1 g2 g3 (q.step m .refl)⟩
end
end L2
namespace L2
open PySem
def eFz (A:EF):EF:=fun ρ=>match A ρ with
 | .ok (.own o) ρ' q=>match fz o with
  | some x=>.ok (.own (.d x)) ρ' q
  | none=>.bad
 | r=>r
theorem zhh {X:Cx} {E:XK} {e:Expr} {A:EF} (h:VR X E e A):VR X E e (eFz A):=h.imp fun σ H Q hx__=>by
 obtain ⟨W,ρ,f,ok,q⟩:=hx__;refine ⟨W,ρ,f,ok, ?_⟩;unfold eFz at q
 cases eA:A ρ with
 | bad=>rw[eA] at q;exact q
 | ex c ρ'=>rw[eA] at q;exact q
 | ok r ρ' b=>
  rw[eA] at q
  cases r with
  | «at» i p=>exact q
  | own o=>
   dsimp only at q ⊢
   cases ef:fz o with
   | none=>rw[ef] at q;exact False.elim q
   | some x=>
    rw[ef] at q;dsimp only at q;intro v H' W' f' B s hr hB m kk;refine q v H' (fun a=>W' a/\a∉B) f' [] (s.on (fun a o ha hw=>⟨ha,fun z=>hw z.1⟩) fun _ _=>rfl) ⟨.d (hr.1.dn (fun a ha=>ha.1) ef fun y hy hw=>hw.2 hy),.nil⟩ (fun x hx=>by cases hx) ⟨m.same,fun x hx=>m.less x hx.1,fun x hx=>?_,fun x hx=>?_,m.sub,m.dom,fun x hx=>?_,fun x hx=>m.dom' x hx.1⟩ kk
    .rcases m.more x hx with a | a
     .exact .inl a
     .by_cases hb:x∈B
      .exact .inl ((m.ours x (.inr hb)).resolve_right fun z=>m.dom x hx z)
      .exact .inr ⟨a,hb⟩
    .rcases hx with hx | hx
     .exact m.ours x (.inl hx)
     .cases hx
    .rcases hx with hx | hx
     .exact ⟨m.sub' x (.inl hx),fun z=>hB x z hx⟩
     .cases hx
section
variable {ρ ρ1:Rho} {A B C:EF} {i:Nat} {x y o:O} {a b:Int}
@[simp] theorem lk0 (a0:O) (l:List O):(a0::l)[0]? = some a0:=rfl
@[simp] theorem st0 (a0 x:O) (l:List O):(a0::l).set 0 x=x::l:=rfl
@[simp] theorem lk1 (a0 a1:O) (l:List O):(a0::a1::l)[1]? = some a1:=rfl
@[simp] theorem st1 (a0 a1 x:O) (l:List O):(a0::a1::l).set 1 x=a0::x::l:=rfl
@[simp] theorem lk2 (a0 a1 a2:O) (l:List O):(a0::a1::a2::l)[2]? = some a2:=rfl
@[simp] theorem st2 (a0 a1 a2 x:O) (l:List O):(a0::a1::a2::l).set 2 x=a0::a1::x::l:=rfl
@[simp] theorem lk3 (a0 a1 a2 a3:O) (l:List O):(a0::a1::a2::a3::l)[3]? = some a3:=rfl
@[simp] theorem st3 (a0 a1 a2 a3 x:O) (l:List O):(a0::a1::a2::a3::l).set 3 x=a0::a1::a2::x::l:=rfl
@[simp] theorem lk4 (a0 a1 a2 a3 a4:O) (l:List O):(a0::a1::a2::a3::a4::l)[4]? = some a4:=rfl
@[simp] theorem st4 (a0 a1 a2 a3 a4 x:O) (l:List O):(a0::a1::a2::a3::a4::l).set 4 x=a0::a1::a2::a3::x::l:=rfl
@[simp] theorem lk5 (a0 a1 a2 a3 a4 a5:O) (l:List O):(a0::a1::a2::a3::a4::a5::l)[5]? = some a5:=rfl
@[simp] theorem st5 (a0 a1 a2 a3 a4 a5 x:O) (l:List O):(a0::a1::a2::a3::a4::a5::l).set 5 x=a0::a1::a2::a3::a4::x::l:=rfl
@[simp] theorem lk6 (a0 a1 a2 a3 a4 a5 a6:O) (l:List O):(a0::a1::a2::a3::a4::a5::a6::l)[6]? = some a6:=rfl
@[simp] theorem st6 (a0 a1 a2 a3 a4 a5 a6 x:O) (l:List O):(a0::a1::a2::a3::a4::a5::a6::l).set 6 x=a0::a1::a2::a3::a4::a5::x::l:=rfl
@[simp] theorem lk7 (a0 a1 a2 a3 a4 a5 a6 a7:O) (l:List O):(a0::a1::a2::a3::a4::a5::a6::a7::l)[7]? = some a7:=rfl
@[simp] theorem st7 (a0 a1 a2 a3 a4 a5 a6 a7 x:O) (l:List O):(a0::a1::a2::a3::a4::a5::a6::a7::l).set 7 x=a0::a1::a2::a3::a4::a5::a6::x::l:=rfl
@[simp] theorem lk8 (a0 a1 a2 a3 a4 a5 a6 a7 a8:O) (l:List O):(a0::a1::a2::a3::a4::a5::a6::a7::a8::l)[8]? = some a8:=rfl
@[simp] theorem st8 (a0 a1 a2 a3 a4 a5 a6 a7 a8 x:O) (l:List O):(a0::a1::a2::a3::a4::a5::a6::a7::a8::l).set 8 x=a0::a1::a2::a3::a4::a5::a6::a7::x::l:=rfl
@[simp] theorem lk9 (a0 a1 a2 a3 a4 a5 a6 a7 a8 a9:O) (l:List O):(a0::a1::a2::a3::a4::a5::a6::a7::a8::a9::l)[9]? = some a9:=rfl
@[simp] theorem st9 (a0 a1 a2 a3 a4 a5 a6 a7 a8 a9 x:O) (l:List O):(a0::a1::a2::a3::a4::a5::a6::a7::a8::a9::l).set 9 x=a0::a1::a2::a3::a4::a5::a6::a7::a8::x::l:=rfl
@[simp] theorem lk10 (a0 a1 a2 a3 a4 a5 a6 a7 a8 a9 a10:O) (l:List O):(a0::a1::a2::a3::a4::a5::a6::a7::a8::a9::a10::l)[10]? = some a10:=rfl
@[simp] theorem st10 (a0 a1 a2 a3 a4 a5 a6 a7 a8 a9 a10 x:O) (l:List O):(a0::a1::a2::a3::a4::a5::a6::a7::a8::a9::a10::l).set 10 x=a0::a1::a2::a3::a4::a5::a6::a7::a8::a9::x::l:=rfl
@[simp] theorem lk11 (a0 a1 a2 a3 a4 a5 a6 a7 a8 a9 a10 a11:O) (l:List O):(a0::a1::a2::a3::a4::a5::a6::a7::a8::a9::a10::a11::l)[11]? = some a11:=rfl
@[simp] theorem st11 (a0 a1 a2 a3 a4 a5 a6 a7 a8 a9 a10 a11 x:O) (l:List O):(a0::a1::a2::a3::a4::a5::a6::a7::a8::a9::a10::a11::l).set 11 x=a0::a1::a2::a3::a4::a5::a6::a7::a8::a9::a10::x::l:=rfl
@[simp] theorem lk12 (a0 a1 a2 a3 a4 a5 a6 a7 a8 a9 a10 a11 a12:O) (l:List O):(a0::a1::a2::a3::a4::a5::a6::a7::a8::a9::a10::a11::a12::l)[12]? = some a12:=rfl
@[simp] theorem st12 (a0 a1 a2 a3 a4 a5 a6 a7 a8 a9 a10 a11 a12 x:O) (l:List O):(a0::a1::a2::a3::a4::a5::a6::a7::a8::a9::a10::a11::a12::l).set 12 x=a0::a1::a2::a3::a4::a5::a6::a7::a8::a9::a10::a11::x::l:=rfl
@[simp] theorem lk13 (a0 a1 a2 a3 a4 a5 a6 a7 a8 a9 a10 a11 a12 a13:O) (l:List O):(a0::a1::a2::a3::a4::a5::a6::a7::a8::a9::a10::a11::a12::a13::l)[13]? = some a13:=rfl
@[simp] theorem st13 (a0 a1 a2 a3 a4 a5 a6 a7 a8 a9 a10 a11 a12 a13 x:O) (l:List O):(a0::a1::a2::a3::a4::a5::a6::a7::a8::a9::a10::a11::a12::a13::l).set 13 x=a0::a1::a2::a3::a4::a5::a6::a7::a8::a9::a10::a11::a12::x::l:=rfl
@[simp] theorem lk14 (a0 a1 a2 a3 a4 a5 a6 a7 a8 a9 a10 a11 a12 a13 a14:O) (l:List O):(a0::a1::a2::a3::a4::a5::a6::a7::a8::a9::a10::a11::a12::a13::a14::l)[14]? = some a14:=rfl
@[simp] theorem st14 (a0 a1 a2 a3 a4 a5 a6 a7 a8 a9 a10 a11 a12 a13 a14 x:O) (l:List O):(a0::a1::a2::a3::a4::a5::a6::a7::a8::a9::a10::a11::a12::a13::a14::l).set 14 x=a0::a1::a2::a3::a4::a5::a6::a7::a8::a9::a10::a11::a12::a13::x::l:=rfl
@[simp] theorem lk15 (a0 a1 a2 a3 a4 a5 a6 a7 a8 a9 a10 a11 a12 a13 a14 a15:O) (l:List O):(a0::a1::a2::a3::a4::a5::a6::a7::a8::a9::a10::a11::a12::a13::a14::a15::l)[15]? = some a15:=rfl
@[simp] theorem st15 (a0 a1 a2 a3 a4 a5 a6 a7 a8 a9 a10 a11 a12 a13 a14 a15 x:O) (l:List O):(a0::a1::a2::a3::a4::a5::a6::a7::a8::a9::a10::a11::a12::a13::a14::a15::l).set 15 x=a0::a1::a2::a3::a4::a5::a6::a7::a8::a9::a10::a11::a12::a13::a14::x::l:=rfl
@[simp] theorem lk16 (a0 a1 a2 a3 a4 a5 a6 a7 a8 a9 a10 a11 a12 a13 a14 a15 a16:O) (l:List O):(a0::a1::a2::a3::a4::a5::a6::a7::a8::a9::a10::a11::a12::a13::a14::a15::a16::l)[16]? = some a16:=rfl
@[simp] theorem st16 (a0 a1 a2 a3 a4 a5 a6 a7 a8 a9 a10 a11 a12 a13 a14 a15 a16 x:O) (l:List O):(a0::a1::a2::a3::a4::a5::a6::a7::a8::a9::a10::a11::a12::a13::a14::a15::a16::l).set 16 x=a0::a1::a2::a3::a4::a5::a6::a7::a8::a9::a10::a11::a12::a13::a14::a15::x::l:=rfl
@[simp] theorem lk17 (a0 a1 a2 a3 a4 a5 a6 a7 a8 a9 a10 a11 a12 a13 a14 a15 a16 a17:O) (l:List O):(a0::a1::a2::a3::a4::a5::a6::a7::a8::a9::a10::a11::a12::a13::a14::a15::a16::a17::l)[17]? = some a17:=rfl
@[simp] theorem st17 (a0 a1 a2 a3 a4 a5 a6 a7 a8 a9 a10 a11 a12 a13 a14 a15 a16 a17 x:O) (l:List O):(a0::a1::a2::a3::a4::a5::a6::a7::a8::a9::a10::a11::a12::a13::a14::a15::a16::a17::l).set 17 x=a0::a1::a2::a3::a4::a5::a6::a7::a8::a9::a10::a11::a12::a13::a14::a15::a16::x::l:=rfl
@[simp] theorem zsl (S T:SF):sSeq S T ρ=match S ρ with | .nx ρ'=>T ρ' | r=>r:=rfl
@[simp] theorem zrO (take:Rho->Rv->Option (O×Rho)) (G:GF):sAsg take A G ρ=match A ρ with
 | .bad=>.bad
 | .ok r ρ' _=>match take ρ' r with
  | some (o,ρ1)=>match G o ρ1 with
   | some ρ2=>.nx ρ2
   | none=>.bad
  | none=>.bad
 | .ex c ρ'=>.ex c ρ':=rfl
@[simp] theorem zrU (take:Rho->Rv->Option (O×Rho)):sRet take A ρ=match A ρ with
 | .bad=>.bad
 | .ok r ρ' _=>match take ρ' r with
  | some (o,ρ'')=>.rt o ρ''
  | none=>.bad
 | .ex c ρ'=>.ex c ρ':=rfl
@[simp] theorem zsQ (T:TF) (S U:SF):sIf T S U ρ=match T ρ with
 | .bad=>.bad
 | .ok b ρ' _=>if b then S ρ' else U ρ'
 | .ex c ρ'=>.ex c ρ':=rfl
@[simp] theorem zp6:zbQ A ρ=match A ρ with
 | .bad=>.bad
 | .ok _ ρ' _=>.nx ρ'
 | .ex c ρ'=>.ex c ρ':=rfl
@[simp] theorem zr5:sNil ρ=.nx ρ:=rfl
@[simp] theorem zr2:sBrk ρ=.br ρ:=rfl
@[simp] theorem zrv:ztv ρ=.rt (.d .none) ρ:=rfl
@[simp] theorem ztM (x:PyData):eC x ρ=.ok (.own (.d x)) ρ true:=rfl
theorem zsk (h:ρ[i]? = some o) (nz:o≠.z):zab i ρ=.ok (.at i []) ρ true:=by
 unfold zab;rw[h]
 cases o<;>first | rfl | exact absurd rfl nz
@[simp] theorem zrt:zab i ρ=match ρ[i]? with | some .z=>.bad | some _=>.ok (.at i []) ρ true | none=>.bad:=rfl
@[simp] theorem vn_d (x:PyData):vn ρ (.own (.d x))=some (.d x):=rfl
@[simp] theorem vn_l (xs:List O):vn ρ (.own (.l xs))=some (.l xs):=rfl
@[simp] theorem vn_t (xs:List O):vn ρ (.own (.t xs))=some (.t xs):=rfl
def nz:Option O->Option O
 | some .z=>none
 | o=>o
@[simp] theorem nz_d (x:PyData):nz (some (.d x))=some (.d x):=rfl
@[simp] theorem nz_l (x:List O):nz (some (.l x))=some (.l x):=rfl
@[simp] theorem nz_t (x:List O):nz (some (.t x))=some (.t x):=rfl
@[simp] theorem nz_q (x:List V):nz (some (.q x))=some (.q x):=rfl
@[simp] theorem nz_x (x:Str):nz (some (.x x))=some (.x x):=rfl
@[simp] theorem nz_z:nz (some .z)=none:=rfl
@[simp] theorem zsw:nz none=none:=rfl
theorem zp5:vw ρ (.at i [])=ρ[i]? := by
 rw[vw];split
 .rename_i o h;rw[h]
  cases o<;>rfl
 .rename_i h;rw[h]
@[simp] theorem znM:vn ρ (.at i [])=nz ρ[i]? := by
 unfold vn;rw[zp5]
 cases h:ρ[i]? with
 | none=>rfl
 | some o=>cases o<;>rfl
@[simp] theorem zsP {q:Bool}:pok ρ q (.own o)=true:=rfl
@[simp] theorem zsF {q:Bool}:pok ρ q (.at i [])=true:=rfl
@[simp] theorem ztD (F:O->O->Option O):e2 A B F ρ=(A ρ).bind fun ra ρ1 q1=>(B ρ1).bind fun rb ρ2 q2=>
 if pok ρ1 q2 ra then match vn ρ2 ra,vn ρ2 rb with
  | some x,some y=>match F x y with
   | some z=>.ok (.own z) ρ2 (q1&&q2)
   | none=>.bad
  | _,_=>.bad
 else .bad:=rfl
@[simp] theorem ztI (F:O->Option O):e1 A F ρ=(A ρ).bind fun ra ρ1 q1=>match vn ρ1 ra with
 | some x=>match F x with
  | some z=>.ok (.own z) ρ1 q1
  | none=>.bad
 | none=>.bad:=rfl
@[simp] theorem ztb:tst A ρ=match A ρ with
 | .bad=>.bad
 | .ex c ρ'=>.ex c ρ'
 | .ok r ρ' q=>match vn ρ' r with
  | some (.d (.bool b))=>.ok b ρ' q
  | _=>.bad:=rfl
@[simp] theorem zst {α:Type} (dec:O->Option α):eSc dec A ρ=(A ρ).bind fun r ρ' q=>match vn ρ' r with
 | some o=>match dec o with
  | some a=>.ok a ρ' q
  | none=>.bad
 | none=>.bad:=rfl
@[simp] theorem ztT:decI (.d (.int a))=some a:=rfl
@[simp] theorem ztY (b:Bool):decB (.d (.bool b))=some b:=rfl
@[simp] theorem ztZ (s:Str):decS (.d (.str s))=some s:=rfl
@[simp] theorem zsf {α:Type} (a:α):gRet a ρ=.ok a ρ true:=rfl
@[simp] theorem zpX {α β:Type} (G:Rho->Re α) (F:α->Rho->Re β):zcl G F ρ=(G ρ).bind fun a ρ1 q1=>(F a ρ1).bind fun b ρ2 q2=>.ok b ρ2 (q1&&q2):=rfl
@[simp] theorem zpV {α:Type} (G:Rho->Re α) (F:α->EF):zl3 G F ρ=(G ρ).bind fun a ρ1 q1=>(F a ρ1).bind fun b ρ2 q2=>.ok b ρ2 (q1&&q2):=rfl
@[simp] theorem zr7 (G:TF):eOfB G ρ=(G ρ).bind fun b ρ' q=>.ok (.own (.d (.bool b))) ρ' q:=rfl
@[simp] theorem zsg:eAnd A B ρ=eOfB (zcl (eSc decB A) fun c=>if c then eSc decB B else gRet false) ρ:=rfl
@[simp] theorem zs3:eOr A B ρ=eOfB (zcl (eSc decB A) fun c=>if c then gRet true else eSc decB B) ρ:=rfl
@[simp] theorem zrX:eNot A ρ=eOfB (zcl (eSc decB A) fun c=>gRet (!c)) ρ:=rfl
@[simp] theorem zsG (S:TF):eIf S A B ρ=zl3 S (fun c=>if c then A else B) ρ:=rfl
@[simp] theorem zsb (S T:TF):gAnd S T ρ=zcl S (fun c=>if c then T else gRet false) ρ:=rfl
@[simp] theorem zs5 (S T:TF):gOr S T ρ=zcl S (fun c=>if c then gRet true else T) ρ:=rfl
@[simp] theorem zrS (S:TF):gNot S ρ=zcl S (fun c=>gRet (!c)) ρ:=rfl
@[simp] theorem zpq (p q:Int->Int->Bool):zeo A B C p q ρ=zcl (eSc decI A) (fun a=>zcl (eSc decI B) fun b=>if p a b then zcl (eSc decI C) fun c=>gRet (q b c) else gRet false) ρ:=rfl
@[simp] theorem zsa:aNil ρ=.ok [] ρ true:=rfl
@[simp] theorem zqS (R:AF):zae A R ρ=(A ρ).bind fun r ρ1 q1=>(R ρ1).bind fun rs ρ2 q2=>if pok ρ1 q2 r then .ok (r::rs) ρ2 (q1&&q2) else .bad:=rfl
@[simp] theorem ztH (R:AF) (F:List O->Option O):eB R F ρ=(R ρ).bind fun rs ρ1 q=>match vns ρ1 rs with
 | some os=>match F os with
  | some z=>.ok (.own z) ρ1 q
  | none=>.bad
 | none=>.bad:=rfl
@[simp] theorem zsE:vns ρ []=some []:=rfl
@[simp] theorem zrR (r:Rv) (rs:List Rv):vns ρ (r::rs)=match vn ρ r,vns ρ rs with | some o,some os=>some (o::os) | _,_=>none:=rfl
@[simp] theorem ztC (F:O->Option O):f1 F [o]=F o:=rfl
@[simp] theorem zsv (F:Int->Int->Int):f2I F [.d (.int a),.d (.int b)]=some (.d (.int (F a b))):=rfl
@[simp] theorem ztk:coe ρ (.own o)=some (o,ρ):=rfl
@[simp] theorem zsY:mov ρ (.own o)=some (o,ρ):=rfl
@[simp] theorem zsL:mov ρ (.at i [])=match ρ[i]? with | some .z=>none | some o=>some (o,ρ.set i .z) | none=>none:=rfl
@[simp] theorem zsZ:sub [] o=some o:=by cases o<;>rfl
@[simp] theorem ztp:coe ρ (.at i [])=match ρ[i]? with
  | some (.d x)=>some (.d x,ρ)
  | some (.x c)=>some (.x c,ρ)
  | some (.g o)=>some (.g o,ρ)
  | some (.q o)=>some (.q o,ρ)
  | some o=>match fz o with
   | some x=>some (.d x,ρ.set i (.d x))
   | none=>none
  | none=>none:=by
 rw[coe]
 cases ρ[i]? with
 | none=>rfl
 | some o=>
  cases o with
  | l xs=>simp;cases fz (.l xs)<;>rfl
  | t xs=>simp;cases fz (.t xs)<;>rfl
  | z=>rfl
  | _=>rfl
@[simp] theorem zse:coes ρ []=some ([],ρ):=rfl
@[simp] theorem zpB (r:Rv) (rs:List Rv):coes ρ (r::rs)=match coe ρ r with
  | some (o,ρ1)=>match coes ρ1 rs with
   | some (os,ρ2)=>some (o::os,ρ2)
   | none=>none
  | none=>none:=rfl
@[simp] theorem zrY:movs ρ []=some ([],ρ):=rfl
@[simp] theorem zrg (r:Rv) (rs:List Rv):movs ρ (r::rs)=match mov ρ r with
  | some (o,ρ1)=>match movs ρ1 rs with
   | some (os,ρ2)=>some (o::os,ρ2)
   | none=>none
  | none=>none:=rfl
@[simp] theorem ztG:(0:Nat)<=sizeLine:=by decide
@[simp] theorem zt2:(1:Nat)<=sizeLine:=by decide
@[simp] theorem ztU:(2:Nat)<=sizeLine:=by decide
@[simp] theorem ztW:(3:Nat)<=sizeLine:=by decide
@[simp] theorem ztL:(4:Nat)<=sizeLine:=by decide
@[simp] theorem ztQ:(5:Nat)<=sizeLine:=by decide
theorem zbR {n:Nat} (h:n<=16777216):n<=sizeLine:=by rw[sizeLine_eq];exact h
theorem zfb {n:Nat} (h:n < 16777216):n < sizeLine:=by rw[sizeLine_eq];exact h
@[simp] theorem zqV (take:Rho->List Rv->Option (List O×Rho)) (mk:List O->O) (R:AF):zaQ take mk R ρ=(R ρ).bind fun rs ρ1 q=>match take ρ1 rs with
 | some (os,ρ2)=>if os.length<=sizeLine then .ok (.own (mk os)) ρ2 q else .bad
 | none=>.bad:=rfl
@[simp] theorem ztu:gtN i o ρ=if i < ρ.length then some (ρ.set i o) else none:=rfl
@[simp] theorem zp3:zbZ [] ρ=some ρ:=rfl
@[simp] theorem zpx (G:GF) (R:List O->Rho->Option Rho) (os:List O):zau G R (o::os) ρ=match G o ρ with | some ρ1=>R os ρ1 | none=>none:=rfl
@[simp] theorem ztx (R:List O->Rho->Option Rho):gtT R o ρ=match els o with | some (false,os)=>R os ρ | _=>none:=rfl
@[simp] theorem zrP (ds:List PyData):els (.d (.list ds))=some (true,ds.map O.d):=rfl
@[simp] theorem zry (ds:List PyData):els (.d (.tuple ds))=some (false,ds.map O.d):=rfl
@[simp] theorem zt4 (os:List O):els (.l os)=some (true,os):=rfl
@[simp] theorem zt6 (os:List O):els (.t os)=some (false,os):=rfl
@[simp] theorem zsM:els (.d (.int a))=none:=rfl
@[simp] theorem zr3 (b:Bool):els (.d (.bool b))=none:=rfl
@[simp] theorem zr1:els (.d .none)=none:=rfl
@[simp] theorem zsp (s:Str):els (.d (.str s))=none:=rfl
@[simp] theorem zum (s:List V):els (.q s)=none:=rfl
@[simp] theorem zcV:eIx A B ρ=(A ρ).bind fun ra ρ1 q1=>(eSc decI B ρ1).bind fun i ρ2 q2=>if pok ρ1 q2 ra then match gIx ρ2 ra i with
 | some r=>.ok r ρ2 (q1&&q2)
 | none=>.bad
 else .bad:=rfl
@[simp] theorem ztX:fAdd (.d (.int a)) (.d (.int b))=some (.d (.int (a+b))):=rfl
@[simp] theorem ztP:fSub (.d (.int a)) (.d (.int b))=some (.d (.int (a - b))):=rfl
@[simp] theorem ztN:fNeg (.d (.int a))=some (.d (.int (-a))):=rfl
@[simp] theorem zuc:fLt (.d (.int a)) (.d (.int b))=some (.d (.bool (decide (a < b)))):=rfl
@[simp] theorem zt8:fLe (.d (.int a)) (.d (.int b))=some (.d (.bool (decide (a<=b)))):=rfl
@[simp] theorem zud:fGt (.d (.int a)) (.d (.int b))=some (.d (.bool (decide (b < a)))):=rfl
@[simp] theorem zt3:fGe (.d (.int a)) (.d (.int b))=some (.d (.bool (decide (b<=a)))):=rfl
theorem zgX (h1:-18446744073709551616 < b) (h2:b < 18446744073709551616):fMul (.d (.int a)) (.d (.int b))=some (.d (.int (a * b))):=by
 unfold fMul;exact if_pos (.inr ⟨by omega,by omega⟩)
theorem zhU (h1:-18446744073709551616 < a) (h2:a < 18446744073709551616):fMul (.d (.int a)) (.d (.int b))=some (.d (.int (a * b))):=by
 unfold fMul;exact if_pos (.inl ⟨by omega,by omega⟩)
theorem zfU (h:0 < b):fMod (.d (.int a)) (.d (.int b))=some (.d (.int (a % b))):=by
 show (gC (fun _ j=>0 < j) (fun a b=>a % b) a b).map O.d=_;unfold gC;rw[if_pos h];rfl
theorem zkZ (h:0 < b) (h2:b < 1606938044258990275541962092341162602522202993782792835301376):fDiv (.d (.int a)) (.d (.int b))=some (.d (.int (a / b))):=by
 show (gC zkr (fun a b=>a / b) a b).map O.d=_;unfold gC;rw[if_pos (show zkr a b from ⟨h,by omega⟩)];rfl
theorem zkb (h:0 < b) (h2:b < 1267650600228229401496703205376):fDiv (.d (.int a)) (.d (.int b))=some (.d (.int (a / b))):=zkZ h (Int.lt_trans h2 (by decide))
theorem zs2 (h0:0<=b) (h1:b<=1000000) (h2:a.natAbs < 18446744073709551616):fPow (.d (.int a)) (.d (.int b))=some (.d (.int (a ^ b.toNat))):=by
 show (gC CPow (fun a b=>a ^ b.toNat) a b).map O.d=_;unfold gC;rw[if_pos (show CPow a b from ⟨h0,h1,by omega⟩)];rfl
@[simp] theorem zou:zkp (.d (.int a))=some (.d (.int (Builtin.Int.intBits a))):=rfl
@[simp] theorem zsD:zlJ (.d (.int a))=some (.d (.int a)):=rfl
@[simp] theorem zs6 (b:Bool):zlJ (.d (.bool b))=some (.d (.int (if b then 1 else 0))):=rfl
@[simp] theorem ztF (U:String):fIsi U (.d (.int a))=some (.d (.bool (subT "int" U))):=rfl
@[simp] theorem zt1 (U:String) (b:Bool):fIsi U (.d (.bool b))=some (.d (.bool (subT "bool" U))):=rfl
@[simp] theorem ztK (U:String):fIsi U (.d .none)=some (.d (.bool (subT "NoneType" U))):=rfl
@[simp] theorem ztR (U:String) (s:Str):fIsi U (.d (.str s))=some (.d (.bool (subT "str" U))):=rfl
@[simp] theorem zqg (U:String) (s:List PyData):fIsi U (.d (.list s))=some (.d (.bool (subT "list" U))):=rfl
@[simp] theorem zrW (U:String) (s:List PyData):fIsi U (.d (.tuple s))=some (.d (.bool (subT "tuple" U))):=rfl
@[simp] theorem ztS (U:String) (s:List O):fIsi U (.l s)=some (.d (.bool (subT "list" U))):=rfl
@[simp] theorem ztE (U:String) (s:List O):fIsi U (.t s)=some (.d (.bool (subT "tuple" U))):=rfl
@[simp] theorem zth (A:EF) (ρ:Rho):eFz A ρ=match A ρ with
 | .ok (.own o) ρ' q=>match fz o with
  | some x=>.ok (.own (.d x)) ρ' q
  | none=>.bad
 | r=>r:=rfl
@[simp] theorem fz_d (x:PyData):fz (.d x)=some x:=by rw[fz]
@[simp] theorem zfS (xs:List PyData):fz (.l (xs.map O.d))=some (.list xs):=by rw[fz,zre];rfl
@[simp] theorem ztg (xs:List PyData):lds (xs.map O.d)=some xs:=ze2 xs
@[simp] theorem zr9:fLen o=match els o with | some (_,os)=>some (.d (.int os.length)) | none=>zm2 o:=rfl
@[simp] theorem zsB (xs:List V):zm2 (.q xs)=some (.d (.int xs.length)):=rfl
@[simp] theorem zq5 (ms:List Bool) (F:FC) (R:AF):zan ms F R ρ=(R ρ).bind fun rs ρ1 q=>match pass ms rs ρ1 with
 | some (os,is,ρ2)=>match F os with
  | .bad=>.bad
  | .ok o outs=>if ms.all (fun m=>!m)&&scl o then .ok (.own o) ρ1 false else .ok (.own o) (zeY is outs ρ2) false
  | .ex c outs=>.ex c (zeY is outs ρ2)
 | none=>.bad:=rfl
@[simp] theorem zsh:pass [] [] ρ=some ([],[],ρ):=rfl
@[simp] theorem zsI (ms:List Bool) (r:Rv) (rs:List Rv):pass (false::ms) (r::rs) ρ=match coe ρ r with
  | some (o,ρ1)=>match pass ms rs ρ1 with
   | some (os,is,ρ2)=>some (o::os,is,ρ2)
   | none=>none
  | none=>none:=rfl
@[simp] theorem zsq (ms:List Bool) (rs:List Rv):pass (true::ms) (.at i []::rs) ρ=match ρ[i]? with
  | some .z=>none
  | some o=>match pass ms rs (ρ.set i .z) with
   | some (os,is,ρ2)=>some (o::os,i::is,ρ2)
   | none=>none
  | none=>none:=rfl
@[simp] theorem zqi (os:List O):zeY [] os ρ=ρ:=by unfold zeY;rfl
@[simp] theorem zpv (is:List Nat) (os:List O):zeY (i::is) (o::os) ρ=zeY is os (ρ.set i o):=rfl
@[simp] theorem zsW:scl (.d (.int a))=true:=rfl
@[simp] theorem zr6 (b:Bool):scl (.d (.bool b))=true:=rfl
@[simp] theorem zsj:scl (.d .none)=true:=rfl
@[simp] theorem zs4 (s:Str):scl (.d (.str s))=true:=rfl
@[simp] theorem zrT (s:List PyData):scl (.d (.list s))=false:=rfl
@[simp] theorem ztr (s:List PyData):scl (.d (.tuple s))=false:=rfl
@[simp] theorem zuj (s:List O):scl (.l s)=false:=rfl
@[simp] theorem zt9 (s:List O):scl (.t s)=false:=rfl
@[simp] theorem zsU (ms:List Bool):zc4 (true::ms) (o::ρ)=o::zc4 ms ρ:=rfl
@[simp] theorem zsN (ms:List Bool):zc4 (false::ms) (o::ρ)=zc4 ms ρ:=rfl
@[simp] theorem zpE:zc4 [] ρ=[]:=by unfold zc4;rfl
@[simp] theorem zm9 (ms:List Bool) (n:Nat) (S:SF) (os:List O):runF ms n S os=match S (os++List.replicate (n - os.length) .z) with
 | .nx ρ'=>.ok (.d .none) (zc4 ms ρ')
 | .rt o ρ'=>.ok o (zc4 ms ρ')
 | .ex c ρ'=>.ex c (zc4 ms ρ')
 | _=>.bad:=rfl
@[simp] theorem zte (neg:Bool):fIs neg x y=if isN y&&!isZ x then some (.d (.bool (if neg then !isN x else isN x))) else none:=rfl
@[simp] theorem zsd:isN (.d .none)=true:=rfl
@[simp] theorem zs9:isN (.d (.int a))=false:=rfl
@[simp] theorem zrZ (s:List PyData):isN (.d (.list s))=false:=rfl
@[simp] theorem ztz (s:List PyData):isN (.d (.tuple s))=false:=rfl
@[simp] theorem zul (s:List O):isN (.l s)=false:=rfl
@[simp] theorem zue (s:List O):isN (.t s)=false:=rfl
@[simp] theorem zua (s:Bool):isN (.d (.bool s))=false:=rfl
@[simp] theorem zt7 (s:Str):isN (.d (.str s))=false:=rfl
@[simp] theorem zuh (x:PyData):isZ (.d x)=false:=rfl
@[simp] theorem zuf (s:List O):isZ (.l s)=false:=rfl
@[simp] theorem zuk (s:List O):isZ (.t s)=false:=rfl
end
section
variable {A B C:EF} {AA:AF} {ρ ρ1 ρ2 ρ3 ρ4:Rho} {r ra rb:Rv} {rs:List Rv} {q q1 q2 q3:Bool} {o x y z:O} {os outs:List O} {is:List Nat} {ms:List Bool} {F:FC} {S T U:SF} {R:Rt} {V W:TF} {b c:Bool}
theorem hide {G:Prop} (h:∀P:Prop,(G->P)->P):G:=h G id
theorem zaq (h:S ρ=.nx ρ1) (k:T ρ1=R):sSeq S T ρ=R:=by unfold sSeq;rw[h];exact k
theorem zfY (h:S ρ=.rt o ρ1):sSeq S T ρ=.rt o ρ1:=by unfold sSeq;rw[h]
theorem zaE {take:Rho->Rv->Option (O×Rho)} {G:GF} (h:A ρ=.ok r ρ1 q) (ht:take ρ1 r=some (o,ρ2)) (hg:G o ρ2=some ρ3):sAsg take A G ρ=.nx ρ3:=by
 unfold sAsg;rw[h];dsimp only;rw[ht];dsimp only;rw[hg]
theorem zbD (hA:AA ρ=.ok rs ρ1 q) (hp:pass ms rs ρ1=some (os,is,ρ2)) (hF:F os=.ok o outs) (hs:(ms.all (fun m=>!m)&&scl o)=true):zan ms F AA ρ=.ok (.own o) ρ1 false:=by
 unfold zan;rw[hA];dsimp only[Re.bind];rw[hp];dsimp only;rw[hF];dsimp only;rw[if_pos hs]
theorem zaA (hA:AA ρ=.ok rs ρ1 q) (hp:pass ms rs ρ1=some (os,is,ρ2)) (hF:F os=.ok o outs) (hs:(ms.all (fun m=>!m)&&scl o)=false) (hb:zeY is outs ρ2=ρ3):zan ms F AA ρ=.ok (.own o) ρ3 false:=by
 unfold zan;rw[hA];dsimp only[Re.bind];rw[hp];dsimp only;rw[hF];dsimp only;rw[if_neg (by rw[hs];simp),hb]
theorem zad (h:A ρ=.ok r ρ1 q1) (k:AA ρ1=.ok rs ρ2 q2) (p:pok ρ1 q2 r=true):zae A AA ρ=.ok (r::rs) ρ2 (q1&&q2):=by
 unfold zae;rw[h];dsimp only[Re.bind];rw[k];dsimp only[Re.bind];rw[if_pos p]
theorem zax {f:O->O->Option O} (h:A ρ=.ok ra ρ1 q1) (k:B ρ1=.ok rb ρ2 q2) (p:pok ρ1 q2 ra=true) (hx:vn ρ2 ra=some x) (hy:vn ρ2 rb=some y) (hf:f x y=some z):e2 A B f ρ=.ok (.own z) ρ2 (q1&&q2):=by
 unfold e2;rw[h];dsimp only[Re.bind];rw[k];dsimp only[Re.bind];rw[if_pos p,hx,hy];dsimp only;rw[hf]
theorem zsS {f:O->Option O} (h:A ρ=.ok ra ρ1 q1) (hx:vn ρ1 ra=some x) (hf:f x=some z):e1 A f ρ=.ok (.own z) ρ1 q1:=by
 unfold e1;rw[h];dsimp only[Re.bind];rw[hx];dsimp only;rw[hf]
theorem zkH {f:List O->Option O} (h:AA ρ=.ok rs ρ1 q1) (hx:vns ρ1 rs=some os) (hf:f os=some z):eB AA f ρ=.ok (.own z) ρ1 q1:=by
 unfold eB;rw[h];dsimp only[Re.bind];rw[hx];dsimp only;rw[hf]
theorem zaK {take:Rho->List Rv->Option (List O×Rho)} {mk:List O->O} (h:AA ρ=.ok rs ρ1 q1) (ht:take ρ1 rs=some (os,ρ2)) (hl:os.length<=sizeLine) (hm:mk os=o):zaQ take mk AA ρ=.ok (.own o) ρ2 q1:=by
 unfold zaQ;rw[h];dsimp only[Re.bind];rw[ht];dsimp only;rw[if_pos hl,hm]
theorem zaN {α:Type} {dec:O->Option α} {a:α} (h:A ρ=.ok r ρ1 q) (hx:vn ρ1 r=some x) (hd:dec x=some a):eSc dec A ρ=.ok a ρ1 q:=by
 unfold eSc;rw[h];dsimp only[Re.bind];rw[hx];dsimp only;rw[hd]
theorem zbb {i:Int} (h:A ρ=.ok ra ρ1 q1) (k:eSc decI B ρ1=.ok i ρ2 q2) (p:pok ρ1 q2 ra=true) (g:gIx ρ2 ra i=some r):eIx A B ρ=.ok r ρ2 (q1&&q2):=by
 unfold eIx;rw[h];dsimp only[Re.bind];rw[k];dsimp only[Re.bind];rw[if_pos p,g]
theorem za4 (h:A ρ=.ok r ρ1 q) (hv:vn ρ1 r=some (.d (.bool b))):tst A ρ=.ok b ρ1 q:=by
 unfold tst;rw[h];dsimp only;rw[hv]
theorem zdh {α β:Type} {G:Rho->Re α} {H:α->Rho->Re β} {a:α} {d:β} (h:G ρ=.ok a ρ1 q1) (k:H a ρ1=.ok d ρ2 q2):zcl G H ρ=.ok d ρ2 (q1&&q2):=by
 unfold zcl;rw[h];dsimp only[Re.bind];rw[k]
theorem zkK (h:V ρ=.ok true ρ1 q):gNot V ρ=.ok false ρ1 (q&&true):=zdh h rfl
theorem or_f (h:V ρ=.ok false ρ1 q1) (k:W ρ1=.ok c ρ2 q2):gOr V W ρ=.ok c ρ2 (q1&&q2):=zdh h k
theorem or_t (h:V ρ=.ok true ρ1 q1):gOr V W ρ=.ok true ρ1 (q1&&true):=zdh h rfl
theorem zs7 (h:V ρ=.ok true ρ1 q1) (k:W ρ1=.ok c ρ2 q2):gAnd V W ρ=.ok c ρ2 (q1&&q2):=zdh h k
theorem if_f (h:V ρ=.ok false ρ1 q) (k:T ρ1=R):sIf V S T ρ=R:=by unfold sIf;rw[h];exact k
theorem if_t (h:V ρ=.ok true ρ1 q) (k:S ρ1=R):sIf V S T ρ=R:=by unfold sIf;rw[h];exact k
theorem zbm {take:Rho->Rv->Option (O×Rho)} (h:A ρ=.ok r ρ1 q) (ht:take ρ1 r=some (o,ρ2)):sRet take A ρ=.rt o ρ2:=by
 unfold sRet;rw[h];dsimp only;rw[ht]
theorem zbv (h:A ρ=.ok r ρ1 q):zbQ A ρ=.nx ρ1:=by unfold zbQ;rw[h]
theorem zqI (h:V ρ=.ok b ρ1 q):eOfB V ρ=.ok (.own (.d (.bool b))) ρ1 q:=by unfold eOfB;rw[h];rfl
theorem ziS (h:eSc decB A ρ=.ok true ρ1 q1) (k:eSc decB B ρ1=.ok c ρ2 q2):eAnd A B ρ=.ok (.own (.d (.bool c))) ρ2 (q1&&q2):=zqI (zdh h k)
theorem zgu (h:C ρ=.ok ra ρ1 q1) (l:isL ρ1 ra=true) (k:A ρ1=.ok rb ρ2 q2) (p:pok ρ1 q2 ra=true) (ht:coe ρ2 rb=some (o,ρ3)) (hp:zfa ρ3 ra (fun os=>if os.length < sizeLine then some (os++[o]) else none)=some ρ4):eApp C A ρ=.ok (.own (.d .none)) ρ4 false:=by
 unfold eApp;rw[h];dsimp only[Re.bind];rw[if_pos l,k];dsimp only[Re.bind];rw[if_pos p,ht];dsimp only;rw[hp]
theorem zlg {I:Rho->Re (List O)} {G:GF} {items:List O} (h:I ρ=.ok items ρ1 q) (k:forF G S items ρ1=R):sFor I G S ρ=R:=by unfold sFor;rw[h];exact k
theorem zjM {j:Int} {n:Nat} (h:eSc decI A ρ=.ok j ρ1 q) (ok:okR j=true) (hn:j.toNat=n):itR1 A ρ=.ok (rngO 0 n) ρ1 q:=by unfold itR1;rw[h];dsimp only[Re.bind];rw[if_pos ok,hn]
theorem zoc {I:Rho->Re (List O)} {js:List (Option Nat)} {G:GF} {items:List O} (h:I ρ=.ok items ρ1 q1) (hl:items.length<=sizeLine) (k:lcF js G V A items ρ1 [] true=.ok os ρ2 q2):eLC I js G V A ρ=.ok (.own (.l os)) ρ2 (q1&&q2):=by
 unfold eLC;rw[h];dsimp only;rw[if_pos hl,k]
theorem zkl {i:Nat} {xs:List O} {d:PyData} (h:ρ[i]? = some (.l xs)) (f:fz (.l xs)=some d):coe ρ (.at i [])=some (.d d,ρ.set i (.d d)):=by simp[coe,h,sub,f]
theorem zih {i:Nat} {xs:List O} {d:PyData} (h:ρ[i]? = some (.t xs)) (f:fz (.t xs)=some d):coe ρ (.at i [])=some (.d d,ρ.set i (.d d)):=by simp[coe,h,sub,f]
theorem zrc {i k:Nat} {xs ys:List O} {d e:PyData} (h:ρ[i]? = some (.t xs)) (g:xs[k]? = some (.l ys)) (f:fz (.t xs)=some d) (f':fz (.l ys)=some e):coe ρ (.at i [k])=some (.d e,ρ.set i (.d d)):=by simp[coe,h,sub,f,g,f']
theorem zca (h:coe ρ r=some (o,ρ1)) (k:pass ms rs ρ1=some (os,is,ρ2)):pass (false::ms) (r::rs) ρ=some (o::os,is,ρ2):=by unfold pass;rw[h];dsimp only;rw[k]
theorem zbX {n:Nat} {ρ0:Rho} (h0:os++List.replicate (n - os.length) .z=ρ0) (h:S ρ0=.rt o ρ1) (hl:zc4 ms ρ1=outs):runF ms n S os=.ok o outs:=by
 unfold runF;rw[h0,h];dsimp only;rw[hl]
theorem znz {n:Nat} {i:Int} (h0:0<=i) (h1:i < n):ixN n i=some i.toNat:=by unfold ixN;rw[if_pos h0,if_pos h1]
theorem zi8 {xs:List O} {k:Nat} {i:Int} {d:PyData} (hj:xs[i.toNat]? = some (.d d)) (h0:0<=i) (h1:i < xs.length) (hk:ρ[k]? = some (.l xs)):gIx ρ (.at k []) i=some (.own (.d d)):=by
 unfold gIx;simp[nz,vn,vw,hk,sub,els,znz h0 h1,hj,ze9]
theorem zj4 {xs:List O} {i:Int} {d:PyData} (hj:xs[i.toNat]? = some (.d d)) (h0:0<=i) (h1:i < xs.length):gIx ρ (.own (.l xs)) i=some (.own (.d d)):=by
 unfold gIx;simp[nz,vn,vw,els,znz h0 h1,hj,ze9]
theorem zdu {xs:List O} {k:Nat} (hk:ρ[k]? = some (.l xs)) (hl:xs.length < sizeLine):zfa ρ (.at k []) (fun os=>if os.length < sizeLine then some (os++[o]) else none)=some (ρ.set k (.l (xs++[o]))):=by
 unfold zfa;simp[hk,sub,put,hl]
theorem znk {n:Nat} {ρ0:Rho} (h0:os++List.replicate (n - os.length) .z=ρ0) (h:S ρ0=.nx ρ1) (hl:zc4 ms ρ1=outs):runF ms n S os=.ok (.d .none) outs:=by
 unfold runF;rw[h0,h];dsimp only;rw[hl]
end
end L2
namespace L2
open PySem PySem.Spec PyProof.Rows
section
variable {mg:Str->Option Value} {K:PySem.W.Frag} {H H':Hp} {W W':Addr->Prop}
theorem Ows.lend:∀{vs:List V} {os:List O} {As:List Addr} {k:Nat} {o:O},Ows mg K H W vs os As->os[k]? = some o->∃w A Bs,vs[k]? = some w/\Ow mg K H W w o A/\Ows mg K H W vs (os.set k .z) Bs/\(A++Bs).Perm As
 | _,_,_,_,_,.nil,e=>by simp at e
 | _,_,_,0,_,.cons (A:=A) (B:=D) a b,e=>by
  simp at e;subst e;exact ⟨_,A,D,rfl,a,.cons (A:=[]) (.z _) b,List.Perm.refl _⟩
 | _,_,_,k+1,o,.cons (A:=A0) (B:=D) a b,e=>by
  obtain ⟨w,A,Bs,h1,h2,h3,h4⟩:=Ows.lend (k:=k) b (by simpa using e);refine ⟨w,A,A0++Bs,by simpa using h1,h2,by simpa using Ows.cons a h3, ?_⟩;rw[<-List.append_assoc];exact ((List.perm_append_comm (l₁:=A) (l₂:=A0)).append_right Bs).trans (by rw[List.append_assoc];exact h4.append_left A0)
end
section
variable {mg:Str->Option Value} {K:PySem.W.Frag} {E:XK} {L:List Nat}
end
section
variable {X:Cx} {E:XK} {L:List Nat}
end
section
variable {X:Cx}
end
def sBad:SF:=fun _=>.bad
section
variable {X:Cx} {E:XK} {L:List Nat}
theorem zfW {st:Stmt}:VS X E L st sBad:=fun _ _ _ _ _ _ h=>by
 obtain ⟨_,_,_,_,q⟩:=h;exact False.elim q
end
end L2
noncomputable section
namespace My
open PySem L2
def zeb:SF:=(sSeq (sIf (tst (e2 (zab 1) (eB (zae (zab 0) aNil) (f1 fLen)) fLt)) (sRet mov (eIx (zab 0) (zab 1))) sNil)
  (sRet mov (eC (.int 0))))
def zdo:FC:=runF [false,false] 2 zeb
def zdf:SF:=(sSeq (sAsg coe (zan [false,false] zdo (zae (zab 0) (zae (zab 1) aNil))) (gtN 2))
  (sRet coe (zaQ coes .l (zae (eB (zae (e2 (zab 2) (e2 (eC (.int 10)) (eC (.int 18)) fPow) fSub) (zae (eC (.int 0)) aNil)) (f2I fun i j=>if j > i then j else i)) (zae (e2 (zab 2) (eC (.int 2147483647)) fMod) (zae (e2 (eC (.int 1000)) (zab 1) fMul) aNil))))))
def zbW:FC:=runF [false,false] 3 zdf
def zdd:SF:=(sSeq (sAsg coe (e2 (e2 (e2 (e2 (e2 (zab 0) (eC (.int 1103515245)) fMul) (e2 (e2 (eC (.int 7919)) (zab 1) fMul) (zab 1) fMul) fAdd) (zab 1) fAdd) (eC (.int 1)) fAdd) (eC (.int 2147483647)) fMod) (gtN 2))
  (sSeq (sAsg coe (e2 (e2 (e2 (zab 2) (zab 2) fMul) (eC (.int 69621)) fAdd) (eC (.int 2147483629)) fMod) (gtN 2))
  (sRet mov (e2 (e2 (zab 2) (eC (.int 48271)) fMul) (eC (.int 2147483587)) fMod))))
def zct:FC:=runF [false,false] 3 zdd
def zcc:SF:=(sSeq (sSub coe (e2 (eIx (zab 0) (eC (.int 2))) (eC (.int 1)) fAdd) (zab 0) (eC (.int 2)))
  (sAsg coe (e2 (e2 (zab 3) (eC (.int 2147483587)) fMul) (zan [false,false] zct (zae (eIx (zab 0) (eC (.int 1))) (zae (eIx (zab 0) (eC (.int 2))) aNil))) fAdd) (gtN 3)))
def zdx:SF:=(sSeq (sIf (tst (e2 (eIx (zab 0) (eC (.int 0))) (eC (.int 0)) fGt)) (sSeq (sAsg coe (e2 (eIx (zab 0) (eC (.int 0))) (zab 1) fMod) (gtN 2))
  (sSeq (sSub coe (e2 (eIx (zab 0) (eC (.int 0))) (zab 1) fDiv) (zab 0) (eC (.int 0)))
  (sRet mov (zab 2)))) sNil)
  (sSeq (sAsg coe (eC (.int 0)) (gtN 3))
  (sSeq (sFor (itR1 (e2 (eC (.int 1)) (e2 (e1 (zab 1) zkp) (eC (.int 30)) fDiv) fAdd)) (gtN 4) zcc)
  (sRet mov (e2 (zab 3) (zab 1) fMod)))))
def zas:FC:=runF [true,false] 5 zdx
def zcW:SF:=(sSeq (sAsg coe (eIx (zaQ coes .l (zae (eC (.int 1)) (zae (eC (.int 4)) (zae (eC (.int 30)) (zae (zab 1) aNil))))) (zan [true,false] zas (zae (zab 0) (zae (eC (.int 4)) aNil)))) (gtN 2))
  (sRet coe (e2 (zan [true,false] zas (zae (zab 0) (zae (e2 (e2 (eC (.int 2)) (zab 2) fMul) (eC (.int 1)) fAdd) aNil))) (zab 2) fSub)))
def zbd:FC:=runF [true,false] 3 zcW
def zbY:EF:=(zan [true,false] zbd (zae (zab 1) (zae (e2 (eC (.int 10)) (eC (.int 8)) fPow) aNil)))
def zcu:SF:=(sSeq (sAsg coe (zan [true,false] zas (zae (zab 0) (zae (zab 3) aNil))) (gtN 7))
  (sSeq (sAsg coe (zan [true,false] zas (zae (zab 0) (zae (zab 3) aNil))) (gtN 8))
  (sSeq (sAsg coe (eIx (zaQ coes .l (zae (eC (.int 0)) (zae (eC (.int 0)) (zae (zan [true,false] zas (zae (zab 0) (zae (eC (.int 4)) aNil))) (zae (zan [true,false] zas (zae (zab 0) (zae (e2 (eC (.int 10)) (eC (.int 8)) fPow) aNil))) aNil))))) (zan [true,false] zas (zae (zab 0) (zae (eC (.int 4)) aNil)))) (gtN 9))
  (sSeq (zbQ (eApp (zab 5) (zaQ coes mkT (zae (zab 7) (zae (zab 8) (zae (e2 (e2 (eIx (zab 4) (zab 8)) (eIx (zab 4) (zab 7)) fSub) (zab 9) fAdd) aNil))))))
  (sIf (tst (e2 (zan [true,false] zas (zae (zab 0) (zae (eC (.int 8)) aNil))) (eC (.int 0)) (fEq false))) (zbQ (eApp (zab 5) (eIx (zab 5) (zan [true,false] zas (zae (zab 0) (zae (eB (zae (zab 5) aNil) (f1 fLen)) aNil)))))) sNil)))))
def zdU:SF:=(sSeq (sAsg coe (zan [true,false] zas (zae (zab 0) (zae (e2 (zab 1) (eC (.int 1)) fAdd) aNil))) (gtN 3))
  (sSeq (sAsg coe (eLC (itR1 (zab 3)) [none,some 0] (gtN 0) (gRet true) zbY) (gtN 4))
  (sSeq (sAsg coe (zaQ coes .l aNil) (gtN 5))
  (sSeq (sFor (itR1 (e2 (zan [true,false] zas (zae (zab 0) (zae (e2 (zab 2) (eC (.int 1)) fAdd) aNil))) (eB (zae (e2 (zab 3) (eC (.int 0)) fGt) aNil) (f1 zlJ)) fMul)) (gtN 6) zcu)
  (sRet mov (zaQ movs mkT (zae (zab 3) (zae (zab 5) aNil))))))))
def zbs:FC:=runF [true,false,false] 10 zdU
def zdr:SF:=(sRet mov (eOfB (zeo (eC (.int 0)) (zab 1) (zab 0) (fun i j=>decide (i<=j)) (fun i j=>decide (i < j)))))
def zbI:FC:=runF [false,false] 2 zdr
def zdS:SF:=(sSeq (sAsg coe (zab 1) (gtT (zau (gtN 2) (zau (gtN 3) (zau (gtN 4) zbZ)))))
  (sRet coe (eAnd (zan [false,false] zbI (zae (zab 0) (zae (zab 2) aNil))) (eAnd (zan [false,false] zbI (zae (zab 0) (zae (zab 3) aNil))) (eOfB (zeo (e1 (eC (.int (1000000000))) fNeg) (zab 4) (eC (.int (1000000000))) (fun i j=>decide (i<=j)) (fun i j=>decide (i<=j))))))))
def zc0:FC:=runF [false,false] 5 zdS
def zcC:SF:=(sIf (gNot (eSc trV (zan [false,false] zc0 (zae (zab 1) (zae (zab 4) aNil))))) sBad sNil)
def zdl:SF:=(sSeq (sAsg coe (zab 0) (gtT (zau (gtN 1) (zau (gtN 2) zbZ))))
  (sSeq (sIf (gNot (zeo (eC (.int 0)) (zab 1) (eC (.int (20))) (fun i j=>decide (i<=j)) (fun i j=>decide (i<=j)))) sBad sNil)
  (sSeq (sIf (tst (e2 (eB (zae (zab 2) aNil) (f1 fLen)) (eC (.int (60))) fGt)) sBad sNil)
  (sFor (itE (zab 2)) (gtT (zau (gtN 3) (zau (gtN 4) zbZ))) zcC))))
def za7:FC:=runF [false] 5 zdl
def zcA:SF:=(sIf (gNot (eSc trV (zan [false,false] zbI (zae (eIx (zab 0) (eC (.int 0))) (zae (zab 1) aNil))))) sBad sNil)
def zbi:FC:=runF [false,false] 2 zcA
def zb7:SF:=(sSeq (zbQ (zan [false] za7 (zae (zab 0) aNil)))
  (sSeq (zbQ (zan [false,false] zbi (zae (zab 0) (zae (zab 1) aNil))))
  (zbQ (zan [false,false] zbi (zae (zab 0) (zae (zab 2) aNil))))))
def zaS:FC:=runF [false,false,false] 3 zb7
def zbP:SF:=(sIf (tst (e2 (e2 (eIx (zab 1) (zab 5)) (zab 7) fAdd) (eIx (zab 1) (zab 6)) fLt)) (sSeq (sSub coe (e2 (eIx (zab 1) (zab 5)) (zab 7) fAdd) (zab 1) (zab 6))
  (sSeq (sSub coe (zab 4) (zab 2) (zab 6))
  (sAsg coe (zab 6) (gtN 3)))) sNil)
def zcP:SF:=(sSeq (sAsg coe (eC .none) (gtN 3))
  (sSeq (sFor (itE (zab 0)) (gtT (zau (gtN 4) (zau (gtT (zau (gtN 5) (zau (gtN 6) (zau (gtN 7) zbZ)))) zbZ))) zbP)
  (sRet mov (zab 3))))
def zce:FC:=runF [false,true,true] 8 zcP
def zc3:SF:=(sSeq (sAsg coe (zan [false,true,true] zce (zae (zab 3) (zae (zab 4) (zae (zab 5) aNil)))) (gtN 6))
  (sIf (tst (e2 (zab 6) (eC .none) (fIs false))) sBrk sNil))
def zdJ:SF:=(sSeq (sAsg coe (zab 0) (gtT (zau (gtN 2) (zau (gtN 3) zbZ))))
  (sSeq (sAsg coe (eB (zae (zab 1) aNil) (f1 zjd)) (gtN 4))
  (sSeq (sAsg coe (e2 (zaQ coes .l (zae (eC .none) aNil)) (zab 2) fMul) (gtN 5))
  (sSeq (sAsg coe (eC .none) (gtN 6))
  (sSeq (sFor (itR1 (zab 2)) (gtN 7) zc3)
  (sRet mov (zaQ movs mkT (zae (zab 4) (zae (zab 5) (zae (zab 6) aNil))))))))))
def zbN:FC:=runF [false,false] 8 zdJ
def zcR:SF:=(sSeq (sAsg coe (zan [false,false] zbN (zae (zab 0) (zae (e2 (zaQ coes .l (zae (eC (.int 0)) aNil)) (eIx (zab 0) (eC (.int 0))) fMul) aNil))) (gtT (zau (gtN 1) (zau (gtN 2) (zau (gtN 3) zbZ)))))
  (sIf (tst (e2 (zab 3) (eC .none) (fIs true))) sBad sNil))
def zbf:FC:=runF [false] 4 zcR
def zcN:SF:=(sSeq (sAsg coe (e2 (zaQ coes .l (zae (eC (.int (40000000000))) aNil)) (eIx (zab 0) (eC (.int 0))) fMul) (gtN 2))
  (sSeq (sSub coe (eC (.int 0)) (zab 2) (zab 1))
  (sSeq (sAsg coe (zan [false,false] zbN (zae (zab 0) (zae (zab 2) aNil))) (gtT (zau (gtN 3) (zau (gtN 4) (zau (gtN 5) zbZ)))))
  (sRet mov (zaQ movs mkT (zae (zab 3) (zae (zab 4) aNil)))))))
def zbJ:FC:=runF [false,false] 6 zcN
def zbo:SF:=(sIf (gAnd (tst (e2 (zab 4) (eIx (zab 2) (zab 3)) (fEq false))) (tst (e2 (zab 5) (zab 2) (fIn true)))) (zbQ (eApp (zab 2) (zab 5))) sNil)
def zbp:TF:=(tst (e2 (zab 3) (eB (zae (zab 2) aNil) (f1 fLen)) fLt))
def zbq:SF:=(sSeq (zhO (srcM false (fun ds=>ds.map O.d) (eIx (zab 0) (eC (.int 1)))) (gtT (zau (gtN 4) (zau (gtN 5) (zau (gtN 6) zbZ)))) zbo)
  (sAug 3 (eC (.int 1)) (fun i j=>i+j)))
def zb4:SF:=(sSeq (sAsg coe (zaQ coes .l (zae (zab 1) aNil)) (gtN 2))
  (sSeq (sAsg coe (eC (.int 0)) (gtN 3))
  (sSeq (zer zbp zbq)
  (sRet mov (eB (zae (zab 2) aNil) (f1 zgy))))))
def za3:FC:=runF [false,false] 7 zb4
def zb9:EF:=(eIf (tst (e2 (zab 0) (zab 1) (fIn false))) (eIx (zab 2) (zab 0)) (eC .none))
def zcw:SF:=(sSeq (sAsg coe (zan [false,false] zbJ (zae (zab 0) (zae (zab 1) aNil))) (gtT (zau (gtN 2) (zau (gtN 3) zbZ))))
  (sSeq (sAsg coe (zan [false,false] za3 (zae (zab 0) (zae (zab 1) aNil))) (gtN 4))
  (sRet coe (eLC (itR1 (eIx (zab 0) (eC (.int 0)))) [none,some 4,some 2] (gtN 0) (gRet true) zb9))))
def zbg:FC:=runF [false,false] 5 zcw
def zbH:TF:=(tst (e2 (eIx (eIx (zab 4) (eIx (zab 5) (eC (.int (-1))))) (eC (.int 0))) (zab 2) (fEq true)))
def zcf:SF:=(zbQ (eApp (zab 5) (eIx (zab 1) (eIx (eIx (zab 4) (eIx (zab 5) (eC (.int (-1))))) (eC (.int 0))))))
def zcF:SF:=(sSeq (sAsg coe (eIx (zab 0) (eC (.int 1))) (gtN 4))
  (sSeq (sAsg coe (zaQ coes .l (zae (eIx (zab 1) (zab 3)) aNil)) (gtN 5))
  (sSeq (zer zbH zcf)
  (sRet mov (e1 (zab 5) fRev)))))
def zb5:FC:=runF [false,false,false,false] 6 zcF
def zck:SF:=(sAsg coe (eIx (eIx (zab 4) (eIx (zab 1) (zab 5))) (eC (.int 0))) (gtN 5))
def zcG:SF:=(sSeq (sAsg coe (zab 0) (gtT (zau (gtN 3) (zau (gtN 4) zbZ))))
  (sSeq (sAsg coe (zab 2) (gtN 5))
  (sSeq (sFor (itR1 (zab 3)) (gtN 6) zck)
  (sRet coe (zan [false,false,false,false] zb5 (zae (zab 0) (zae (zab 1) (zae (zab 5) (zae (zab 5) aNil)))))))))
def zb3:FC:=runF [false,false,false] 7 zcG
def zcY:SF:=(sSeq (zbQ (zan [false] za7 (zae (zab 0) aNil)))
  (sSeq (sAsg coe (zan [false,false] zbN (zae (zab 0) (zae (e2 (zaQ coes .l (zae (eC (.int 0)) aNil)) (eIx (zab 0) (eC (.int 0))) fMul) aNil))) (gtT (zau (gtN 1) (zau (gtN 2) (zau (gtN 3) zbZ)))))
  (sSeq (sIf (tst (e2 (zab 3) (eC .none) (fIs false))) (sRet mov (zaQ movs mkT (zae (eC (.str "heights")) (zae (zab 1) aNil)))) sNil)
  (sRet mov (zaQ movs mkT (zae (eC (.str "ring")) (zae (zan [false,false,false] zb3 (zae (zab 0) (zae (zab 2) (zae (zab 3) aNil)))) aNil)))))))
def zaT:FC:=runF [false] 4 zcY
end My
end
namespace My
open PySem L2
abbrev Road:=Int×Int×Int
def zar (r:Road):PyData:=.tuple [.int r.1,.int r.2.1,.int r.2.2]
def zbr (rs:List Road):PyData:=.list (rs.map zar)
def netD (n:Int) (rs:List Road):PyData:=.tuple [.int n,zbr rs]
def zb2 (ns:List Int):PyData:=.list (ns.map .int)
def znP (n:Int) (r:Road):Prop:=(0<=r.1/\r.1 < n)/\(0<=r.2.1/\r.2.1 < n)/\(-1000000000<=r.2.2/\r.2.2<=1000000000)
structure zaL (n:Int) (rs:List Road):Prop where
 n0:0<=n
 n1:n<=20
 len:rs.length<=60
 rd:∀r∈rs,znP n r
def za2 (rs:List Road) (k:Int):Option Road:=if 0<=k/\k < rs.length then rs[k.toNat]? else none
theorem zbF {rs:List Road} {k:Int} {r:Road} (h:za2 rs k=some r):0<=k/\k < rs.length/\rs[k.toNat]? = some r:=by
 unfold za2 at h;split at h
 .rename_i hk;exact ⟨hk.1,hk.2,h⟩
 .cases h
theorem zgE {rs:List Road} {k:Int} (h0:0<=k) (h1:k < rs.length):∃r,za2 rs k=some r/\rs[k.toNat]? = some r:=by
 have hk:k.toNat < rs.length:=by omega
 refine ⟨rs[k.toNat], ?_,by simp[hk]⟩;unfold za2;rw[if_pos ⟨h0,h1⟩];simp[hk]
theorem zcd {rs:List Road} {k:Int} {r:Road} (h:za2 rs k=some r):r∈rs:=List.mem_of_getElem? (zbF h).2.2
def zbC (rs:List Road):Int->Int->List Int->Bool
 | p,q,[]=>decide (p=q)
 | p,q,k::ws=>match za2 rs k with
  | some r=>if r.1=p then zbC rs r.2.1 q ws else false
  | none=>false
def zgS (rs:List Road) (k:Int):Int:=match za2 rs k with
 | some r=>r.2.2
 | none=>0
def za0 (rs:List Road) (ws:List Int):Int:=(ws.map (zgS rs)).sum
def zmK (rs:List Road) (ws:List Int):Prop:=∀k∈ws,0<=k/\k < rs.length
theorem zgi {rs:List Road}:∀{ws:List Int} {p q:Int},zbC rs p q ws=true->zmK rs ws
 | [],_,_,_=>fun _ h=>by simp at h
 | k::ws,p,q,h=>by
  unfold zbC at h
  cases e:za2 rs k with
  | none=>rw[e] at h;cases h
  | some r=>
   rw[e] at h;simp only at h;split at h
   .intro j hj;rcases List.mem_cons.mp hj with rfl | hj
    .exact ⟨(zbF e).1,(zbF e).2.1⟩
    .exact zgi h j hj
   .cases h
end My
namespace L2
end L2
namespace My
open PySem L2
end My
namespace L2
end L2
namespace My
open PySem L2 PySem.SeqAt
mutual
theorem zfo:∀d:PyData,d.canLay0=true->PyData.eqv d d=true
 | .none,_=>rfl
 | .bool b,_=>by simp[PyData.eqv]
 | .int i,_=>by simp[PyData.eqv]
 | .str x,_=>by simp[PyData.eqv]
 | .list xs,h=>by
  simp only[PyData.eqv];exact ze6 xs (by simpa [PyData.canLay0] using h)
 | .tuple xs,h=>by
  simp only[PyData.eqv];exact ze6 xs (by simpa [PyData.canLay0] using h)
 | .dict _,h=>by simp[PyData.canLay0] at h
theorem ze6:∀ds:List PyData,PyData.canLayAll0 ds=true->PyData.eqvAll ds ds=true
 | [],_=>rfl
 | d::ds,h=>by
  simp only[PyData.canLayAll0,Bool.and_eq_true] at h;simp only[PyData.eqvAll,Bool.and_eq_true];exact ⟨zfo d h.1,ze6 ds h.2⟩
end
end My
namespace My
open PySem L2
def zq2 (n B:Int) (r:Road):Prop:=(0<=r.1/\r.1 < n)/\(0<=r.2.1/\r.2.1 < n)/\(-B<=r.2.2/\r.2.2<=B)
structure NetB (n B:Int) (most many:Nat) (rs:List Road):Prop where
 n0:0<=n
 n1:n<=most
 len:rs.length<=many
 rd:∀r∈rs,zq2 n B r
theorem NetB.ok {n B:Int} {most many:Nat} {rs:List Road} (h:NetB n B most many rs) (h1:most<=20) (h2:many<=60) (h3:B<=1000000000):zaL n rs:=
 ⟨h.n0,by have:=h.n1;omega,by have:=h.len;omega,fun r hr=>by
  obtain ⟨a,b,c⟩:=h.rd r hr;exact ⟨a,b,by omega,by omega⟩⟩
abbrev Tab:=List (List (Option Int))
def optD:Option Int->PyData
 | none=>.none
 | some i=>.int i
def rowD (r:List (Option Int)):PyData:=.list (r.map optD)
def tabD (t:Tab):PyData:=.list (t.map rowD)
structure Shape (n:Nat) (t:Tab):Prop where
 len:t.length=n
 row:∀r∈t,r.length=n
def cell (t:Tab) (i j:Nat):Option Int:=((t[i]?.getD [])[j]?).getD none
theorem Shape.at {n:Nat} {t:Tab} (h:Shape n t) {i j:Nat} (hi:i < n) (hj:j < n):∃r,t[i]? = some r/\r[j]? = some (cell t i j)/\r∈t:=by
 have hi':i < t.length:=by rw[h.len];exact hi
 refine ⟨t[i],by simp[hi'], ?_,List.getElem_mem hi'⟩;have hj':j < t[i].length:=by rw[h.row _ (List.getElem_mem hi')];exact hj
 unfold cell;simp[hi',hj']
def setT (t:Tab) (i j:Nat) (v:Option Int):Tab:=match t[i]? with
 | some r=>t.set i (r.set j v)
 | none=>t
def tab0 (n:Nat):Tab:=List.replicate n (List.replicate n none)
def tab1 (n k:Nat):Tab:=(List.range k).foldl (fun t p=>setT t p p (some 0)) (tab0 n)
def lowT (t:Tab) (i j:Nat) (x:Int):Tab:=match cell t i j with
 | none=>setT t i j (some x)
 | some c=>if x < c then setT t i j (some x) else t
def zkh (t:Tab) (r:Road):Tab:=lowT t r.1.toNat r.2.1.toNat r.2.2
def tab2 (n:Nat) (rs:List Road):Tab:=rs.foldl zkh (tab1 n n)
def zhw (mid one other:Nat) (t:Tab):Tab:=match cell t one mid,cell t mid other with
 | some x,some y=>lowT t one other (x+y)
 | _,_=>t
def fw3 (mid one k:Nat) (t:Tab):Tab:=(List.range k).foldl (fun t other=>zhw mid one other t) t
def fw2 (n mid k:Nat) (t:Tab):Tab:=(List.range k).foldl (fun t one=>fw3 mid one n t) t
def fw1 (n k:Nat) (t:Tab):Tab:=(List.range k).foldl (fun t mid=>fw2 n mid n t) t
def zaP (n:Nat) (rs:List Road):Tab:=fw1 n n (tab2 n rs)
theorem zbk {α:Type} (f:α->Nat->α) (a:α) (k:Nat):(List.range (k+1)).foldl f a=f ((List.range k).foldl f a) k:=by
 rw[List.range_succ,List.foldl_append];rfl
theorem zjo {n:Nat} {t:Tab} {i j:Nat} {v:Option Int} (h:Shape n t):Shape n (setT t i j v):=by
 unfold setT
 cases e:t[i]? with
 | none=>exact h
 | some r=>
  refine ⟨by simp[h.len],fun x hx=>?_⟩;rcases List.mem_or_eq_of_mem_set hx with z | z
  .exact h.row x z
  .rw[z,List.length_set];exact h.row r (List.mem_of_getElem? e)
theorem zgf {n:Nat} {t:Tab} {i j a b:Nat} {v:Option Int} (h:Shape n t) (hi:i < n) (hj:j < n):cell (setT t i j v) a b=if a=i/\b=j then v else cell t a b:=by
 obtain ⟨r,hr,_,_⟩:=h.at hi hj;have hil:i < t.length:=by rw[h.len];exact hi
 have hjl:j < r.length:=by rw[h.row r (List.mem_of_getElem? hr)];exact hj
 unfold setT;rw[hr];unfold cell
 by_cases ha:a=i
 .subst ha;simp only[List.getElem?_set_self hil,Option.getD_some]
  by_cases hb:b=j
  .subst hb;simp[hjl]
  .rw[List.getElem?_set_ne (Ne.symm hb),hr];simp[hb]
 .simp[List.getElem?_set_ne (Ne.symm ha),ha]
theorem zee {n:Nat} {t:Tab} {i j:Nat} {x:Int} (h:Shape n t):Shape n (lowT t i j x):=by
 unfold lowT;split
 .exact zjo h
 .split
  .exact zjo h
  .exact h
theorem zhv {n:Nat} {t:Tab} {a b c:Nat} (h:Shape n t):Shape n (zhw a b c t):=by
 unfold zhw;split
 .exact zee h
 .exact h
theorem zfH {α:Type} {n:Nat} {f:Tab->α->Tab} (hf:∀t a,Shape n t->Shape n (f t a)):∀(l:List α) (t:Tab),Shape n t->Shape n (l.foldl f t)
 | [],_,h=>h
 | a::l,t,h=>zfH hf l (f t a) (hf t a h)
theorem zoi (n:Nat):Shape n (tab0 n):=⟨by simp[tab0],fun r hr=>by rw[tab0] at hr;rw[(List.mem_replicate.mp hr).2];simp⟩
theorem zfN (n k:Nat):Shape n (tab1 n k):=zfH (fun t a h=>zjo h) _ _ (zoi n)
theorem ziN (n:Nat) (rs:List Road):Shape n (tab2 n rs):=zfH (fun t a h=>zee h) _ _ (zfN n n)
theorem zk1 {n mid one k:Nat} {t:Tab} (h:Shape n t):Shape n (fw3 mid one k t):=zfH (fun t a h=>zhv h) _ _ h
theorem zkQ {n mid k:Nat} {t:Tab} (h:Shape n t):Shape n (fw2 n mid k t):=zfH (fun t a h=>zk1 h) _ _ h
theorem zkW {n k:Nat} {t:Tab} (h:Shape n t):Shape n (fw1 n k t):=zfH (fun t a h=>zkQ h) _ _ h
theorem zcp (n:Nat) (rs:List Road):Shape n (zaP n rs):=zkW (ziN n rs)
def Has (n:Nat) (t:Tab):Prop:=Shape n t/\∀i,i < n->∃d,cell t i i=some d
theorem zmA {n:Nat} {t:Tab} {i j:Nat} {x:Int} (hi:i < n) (hj:j < n) (h:Has n t):Has n (lowT t i j x):=by
 refine ⟨zee h.1,fun k hk=>?_⟩;obtain ⟨d,hd⟩:=h.2 k hk;have key:∀v,(cell (setT t i j (some v)) k k)=some v\/cell (setT t i j (some v)) k k=some d:=fun v=>by
  rw[zgf h.1 hi hj];split
  .exact .inl rfl
  .exact .inr hd
 unfold lowT;split
 .rcases key x with z | z<;>exact ⟨_,z⟩
 .split
  .rcases key x with z | z<;>exact ⟨_,z⟩
  .exact ⟨d,hd⟩
theorem zjU {α:Type} {n:Nat} {f:Tab->α->Tab}:∀(l:List α) (t:Tab),(∀t,∀a∈l,Has n t->Has n (f t a))->Has n t->Has n (l.foldl f t)
 | [],_,_,h=>h
 | a::l,t,hf,h=>zjU l (f t a) (fun t b hb=>hf t b (List.mem_cons_of_mem _ hb)) (hf t a List.mem_cons_self h)
theorem zgt (n k:Nat) (hk:k<=n):∀i j,i < n->j < n->cell (tab1 n k) i j=if i=j/\i < k then some 0 else none:=by
 induction k with
 | zero=>
  intro i j hi hj;rw[if_neg (by omega)];unfold tab1 tab0 cell;simp[hi,hj]
 | succ k ih=>
  intro i j hi hj;unfold tab1;rw[zbk]
  have:=zgf (t:=tab1 n k) (i:=k) (j:=k) (a:=i) (b:=j) (v:=some 0) (zfN n k) (by omega) (by omega)
  rw[show List.foldl (fun t p=>setT t p p (some 0)) (tab0 n) (List.range k)=tab1 n k from rfl,this,ih (by omega) i j hi hj]
  by_cases h1:i=k/\j=k
  .rw[if_pos h1,if_pos (by omega)]
  .rw[if_neg h1]
   by_cases h2:i=j/\i < k
   .rw[if_pos h2,if_pos (by omega)]
   .rw[if_neg h2,if_neg (by omega)]
theorem zm7 (n:Nat):Has n (tab1 n n):=⟨zfN n n,fun i hi=>⟨0,by rw[zgt n n (Nat.le_refl _) i i hi hi,if_pos ⟨rfl,hi⟩]⟩⟩
theorem zmZ {n:Nat} {rs:List Road} (h:∀r∈rs,r.1.toNat < n/\r.2.1.toNat < n):Has n (tab2 n rs):=zjU rs _ (fun t r hr ht=>zmA (h r hr).1 (h r hr).2 ht) (zm7 n)
inductive Wk (rs:List Road):Int->Int->Int->Prop where
 | nil (p:Int):Wk rs p p 0
 | cons {r:Road} {q L:Int}:r∈rs->Wk rs r.2.1 q L->Wk rs r.1 q (r.2.2+L)
theorem Wk.cast {rs:List Road} {p q L M:Int} (h:Wk rs p q L) (e:L=M):Wk rs p q M:=e ▸ h
theorem Wk.trans {rs:List Road} {p q s L M:Int} (h:Wk rs p q L) (g:Wk rs q s M):Wk rs p s (L+M):=by
 induction h with
 | nil p=>exact g.cast (by omega)
 | cons hr _ ih=>exact (Wk.cons hr (ih g)).cast (by omega)
theorem Wk.one {rs:List Road} {r:Road} (h:r∈rs):Wk rs r.1 r.2.1 r.2.2:=(Wk.cons h (.nil _)).cast (by omega)
theorem Wk.sub {rs rs':List Road} (hs:∀r∈rs,r∈rs') {p q L:Int} (h:Wk rs p q L):Wk rs' p q L:=by
 induction h with
 | nil p=>exact .nil p
 | cons hr _ ih=>exact .cons (hs _ hr) ih
def Taut (rs:List Road):Prop:=∀p L,Wk rs p p L->0<=L
def Pot (rs:List Road) (h:Int->Int):Prop:=∀r∈rs,h r.2.1<=h r.1+r.2.2
theorem Pot.wk {rs:List Road} {h:Int->Int} (P:Pot rs h) {p q L:Int} (w:Wk rs p q L):h q<=h p+L:=by
 induction w with
 | nil p=>omega
 | cons hr _ ih=>have:=P _ hr;omega
theorem Pot.taut {rs:List Road} {h:Int->Int} (P:Pot rs h):Taut rs:=fun p L w=>by have:=P.wk w;omega
theorem Wk.end_in {rs:List Road} {n:Int} (ok:∀r∈rs,(0<=r.1/\r.1 < n)/\(0<=r.2.1/\r.2.1 < n)) {p q L:Int} (h:Wk rs p q L) (hp:0<=p/\p < n):0<=q/\q < n:=by
 induction h with
 | nil p=>exact hp
 | cons hr _ ih=>exact ih (ok _ hr).2
def Dist (rs:List Road) (p q d:Int):Prop:=Wk rs p q d/\∀L,Wk rs p q L->d<=L
theorem Dist.uniq {rs:List Road} {p q d e:Int} (h:Dist rs p q d) (g:Dist rs p q e):d=e:=Int.le_antisymm (h.2 _ g.1) (g.2 _ h.1)
theorem zea {rs:List Road} {k:Int} {r:Road} (h:za2 rs k=some r):zgS rs k=r.2.2:=by unfold zgS;rw[h]
theorem zcU (rs:List Road) (k:Int) (ws:List Int):za0 rs (k::ws)=zgS rs k+za0 rs ws:=by unfold za0;simp
theorem zg8 (rs:List Road) (a b:List Int):za0 rs (a++b)=za0 rs a+za0 rs b:=by unfold za0;simp
theorem zec {rs:List Road}:∀{ws:List Int} {p q:Int},zbC rs p q ws=true->Wk rs p q (za0 rs ws)
 | [],p,q,h=>by
  have:p=q:=by simpa [zbC] using h
  subst this;exact .nil p
 | k::ws,p,q,h=>by
  unfold zbC at h
  cases e:za2 rs k with
  | none=>rw[e] at h;cases h
  | some r=>
   rw[e] at h;simp only at h;split at h
   .rename_i hp;subst hp;rw[zcU,zea e];exact .cons (zcd e) (zec h)
   .cases h
def omin:Option Int->Int->Int
 | none,x=>x
 | some c,x=>if x < c then x else c
theorem zc8 (c x:Int):omin (some c) x=if x < c then x else c:=rfl
theorem zls (c:Option Int) (x:Int):omin c x<=x:=by
 cases c with
 | none=>exact Int.le_refl _
 | some c=>rw[zc8];split<;>omega
theorem zmV (c x:Int):omin (some c) x<=c:=by rw[zc8];split<;>omega
theorem zlu (c x:Int):omin (some c) x=c\/(omin (some c) x=x/\x < c):=by rw[zc8];split<;>omega
theorem zeh {n:Nat} {t:Tab} {i j a b:Nat} {x:Int} (h:Shape n t) (hi:i < n) (hj:j < n):cell (lowT t i j x) a b=if a=i/\b=j then some (omin (cell t i j) x) else cell t a b:=by
 unfold lowT
 cases e:cell t i j with
 | none=>simp only;rw[zgf h hi hj];rfl
 | some c=>
  simp only
  by_cases hx:x < c
  .rw[if_pos hx,zgf h hi hj];rw[zc8,if_pos hx]
  .rw[if_neg hx];rw[zc8,if_neg hx]
   by_cases hab:a=i/\b=j
   .rw[if_pos hab,hab.1,hab.2,e]
   .rw[if_neg hab]
def LowT (n:Nat) (t t':Tab):Prop:=∀i j x,i < n->j < n->cell t i j=some x->∃y,cell t' i j=some y/\y<=x
theorem LowT.refl (n:Nat) (t:Tab):LowT n t t:=fun _ _ x _ _ h=>⟨x,h,Int.le_refl _⟩
theorem LowT.trans {n:Nat} {a b c:Tab} (h:LowT n a b) (g:LowT n b c):LowT n a c:=fun i j x hi hj e=>by
 obtain ⟨y,e1,l1⟩:=h i j x hi hj e;obtain ⟨z,e2,l2⟩:=g i j y hi hj e1;exact ⟨z,e2,by omega⟩
theorem zhF {n:Nat} {t:Tab} {i j:Nat} {x:Int} (h:Shape n t) (hi:i < n) (hj:j < n):LowT n t (lowT t i j x):=fun a b y ha hb e=>by
 rw[zeh h hi hj]
 by_cases hab:a=i/\b=j
 .rw[if_pos hab];obtain ⟨rfl,rfl⟩:=hab;rw[e];exact ⟨_,rfl,zmV _ _⟩
 .rw[if_neg hab];exact ⟨y,e,Int.le_refl _⟩
theorem zlm {n:Nat} {t:Tab} {m i j:Nat} (h:Shape n t) (hi:i < n) (hj:j < n):LowT n t (zhw m i j t):=by
 unfold zhw;split
 .exact zhF h hi hj
 .exact LowT.refl _ _
theorem zeN {α:Type} {n:Nat} {f:Tab->α->Tab}:∀(l:List α) (t:Tab),(∀t,∀a∈l,Shape n t->Shape n (f t a)/\LowT n t (f t a))->Shape n t->LowT n t (l.foldl f t)
 | [],t,_,_=>LowT.refl _ _
 | a::l,t,hf,h=>(hf t a List.mem_cons_self h).2.trans (zeN l (f t a) (fun t b hb=>hf t b (List.mem_cons_of_mem _ hb)) (hf t a List.mem_cons_self h).1)
theorem zo3 {n mid one k:Nat} {t:Tab} (h:Shape n t) (h1:one < n) (hk:k<=n):LowT n t (fw3 mid one k t):=
 zeN _ _ (fun t a ha hs=>⟨zhv hs,zlm hs h1 (Nat.lt_of_lt_of_le (List.mem_range.mp ha) hk)⟩) h
theorem zk6 {n mid k:Nat} {t:Tab} (h:Shape n t) (hk:k<=n):LowT n t (fw2 n mid k t):=
 zeN _ _ (fun t a ha hs=>⟨zk1 hs,zo3 hs (Nat.lt_of_lt_of_le (List.mem_range.mp ha) hk) (Nat.le_refl _)⟩) h
theorem zlK {n k:Nat} {t:Tab} (h:Shape n t):LowT n t (fw1 n k t):=
 zeN _ _ (fun t a ha hs=>⟨zkQ hs,zk6 hs (Nat.le_refl _)⟩) h
def Snd (rs:List Road) (n:Nat) (t:Tab):Prop:=∀i j x,i < n->j < n->cell t i j=some x->Wk rs i j x
theorem zkF {rs:List Road} {n:Nat} {t:Tab} {i j:Nat} {x:Int} (h:Shape n t) (hi:i < n) (hj:j < n) (S:Snd rs n t) (w:Wk rs i j x):Snd rs n (lowT t i j x):=fun a b y ha hb e=>by
 rw[zeh h hi hj] at e
 by_cases hab:a=i/\b=j
 .rw[if_pos hab] at e;obtain ⟨rfl,rfl⟩:=hab
  cases hc:cell t a b with
  | none=>rw[hc] at e;cases e;exact w
  | some c=>
   rw[hc] at e;rcases zlu c x with z | ⟨z,_⟩
   .rw[z] at e;cases e;exact S _ _ _ ha hb hc
   .rw[z] at e;cases e;exact w
 .rw[if_neg hab] at e;exact S _ _ _ ha hb e
theorem zmf {rs:List Road} {n:Nat} {t:Tab} {m i j:Nat} (h:Shape n t) (hm:m < n) (hi:i < n) (hj:j < n) (S:Snd rs n t):Snd rs n (zhw m i j t):=by
 unfold zhw;split
 .rename_i x y e1 e2;exact zkF h hi hj S ((S _ _ _ hi hm e1).trans (S _ _ _ hm hj e2))
 .exact S
theorem zfm {α:Type} {rs:List Road} {n:Nat} {f:Tab->α->Tab}:∀(l:List α) (t:Tab),(∀t,∀a∈l,Shape n t->Snd rs n t->Shape n (f t a)/\Snd rs n (f t a))->Shape n t->Snd rs n t->Snd rs n (l.foldl f t)
 | [],t,_,_,S=>S
 | a::l,t,hf,h,S=>zfm l (f t a) (fun t b hb=>hf t b (List.mem_cons_of_mem _ hb)) (hf t a List.mem_cons_self h S).1 (hf t a List.mem_cons_self h S).2
theorem zoX {rs:List Road} {n:Nat} {t:Tab} (h:Shape n t) (S:Snd rs n t):Snd rs n (fw1 n n t):=
 zfm _ _ (fun t a ha hs S=>⟨zkQ hs,zfm _ _ (fun t b hb hs S=>⟨zk1 hs,zfm _ _ (fun t c hc hs S=>⟨zhv hs,zmf hs (List.mem_range.mp ha) (List.mem_range.mp hb) (List.mem_range.mp hc) S⟩) hs S⟩) hs S⟩) h S
structure Ph (n mid:Nat) (D t:Tab) (done:Nat->Nat->Prop):Prop where
 sh:Shape n t
 row:∀j,j < n->cell t mid j=cell D mid j
 col:∀i,i < n->cell t i mid=cell D i mid
 alt:∀i j,i < n->j < n->cell t i j=cell D i j\/∃x y,cell D i mid=some x/\cell D mid j=some y/\cell t i j=some (x+y)/\∀c,cell D i j=some c->x+y<=c
 dn:∀i j,i < n->j < n->done i j->∀x y,cell D i mid=some x->cell D mid j=some y->∃z,cell t i j=some z/\z<=x+y
theorem Ph.start {n mid:Nat} {D:Tab} (h:Shape n D):Ph n mid D D (fun _ _=>False):=
 ⟨h,fun _ _=>rfl,fun _ _=>rfl,fun _ _ _ _=>.inl rfl,fun _ _ _ _ z=>z.elim⟩
theorem Ph.imp {n mid:Nat} {D t:Tab} {d d':Nat->Nat->Prop} (h:Ph n mid D t d) (hd:∀i j,i < n->j < n->d' i j->d i j):Ph n mid D t d':=
 ⟨h.sh,h.row,h.col,h.alt,fun i j hi hj z=>h.dn i j hi hj (hd i j hi hj z)⟩
theorem Ph.step {n mid one oth:Nat} {D t:Tab} {d:Nat->Nat->Prop} (h:Ph n mid D t d) (hm:mid < n) (ho:one < n) (ht:oth < n) {q:Int} (hq:cell D mid mid=some q) (q0:0<=q) :
  Ph n mid D (zhw mid one oth t) (fun i j=>d i j\/(i=one/\j=oth)):=by
 have e1:=h.col one ho;have e2:=h.row oth ht;unfold zhw
 cases c1:cell D one mid with
 | none=>
  rw[e1,c1];exact ⟨h.sh,h.row,h.col,h.alt,fun i j hi hj z x y ex ey=>by
   rcases z with z | ⟨rfl,rfl⟩
   .exact h.dn i j hi hj z x y ex ey
   .rw[c1] at ex;cases ex⟩
 | some x=>
 cases c2:cell D mid oth with
 | none=>
  rw[e1,c1,e2,c2];exact ⟨h.sh,h.row,h.col,h.alt,fun i j hi hj z x y ex ey=>by
   rcases z with z | ⟨rfl,rfl⟩
   .exact h.dn i j hi hj z x y ex ey
   .rw[c2] at ey;cases ey⟩
 | some y=>
  rw[e1,c1,e2,c2];simp only;have L:=zhF (x:=x+y) h.sh ho ht;refine ⟨zee h.sh,fun j hj=>?_,fun i hi=>?_,fun i j hi hj=>?_,fun i j hi hj z x' y' ex ey=>?_⟩
  .rw[zeh h.sh ho ht]
   by_cases hc:mid=one/\j=oth
   .rw[if_pos hc];obtain ⟨rfl,rfl⟩:=hc;rw[hq] at c1;cases c1;rw[e2,c2];rw[zc8,if_neg (by omega)]
   .rw[if_neg hc];exact h.row j hj
  .rw[zeh h.sh ho ht]
   by_cases hc:i=one/\mid=oth
   .rw[if_pos hc];obtain ⟨rfl,rfl⟩:=hc;rw[hq] at c2;cases c2;rw[e1,c1];rw[zc8,if_neg (by omega)]
   .rw[if_neg hc];exact h.col i hi
  .rw[zeh h.sh ho ht]
   by_cases hc:i=one/\j=oth
   .rw[if_pos hc];obtain ⟨rfl,rfl⟩:=hc;rcases h.alt i j hi hj with z | ⟨x',y',h1,h2,h3,h4⟩
    .rw[z]
     cases hd:cell D i j with
     | none=>exact .inr ⟨x,y,c1,c2,rfl,fun c z=>by cases z⟩
     | some c=>
      rcases zlu c (x+y) with z | ⟨z,l⟩
      .rw[z];exact .inl rfl
      .rw[z];exact .inr ⟨x,y,c1,c2,rfl,fun c' z'=>by cases z';omega⟩
    .rw[c1] at h1;cases h1;rw[c2] at h2;cases h2;rw[h3];refine .inr ⟨x,y,c1,c2, ?_,h4⟩;rw[zc8,if_neg (by omega)]
   .rw[if_neg hc];exact h.alt i j hi hj
  .rcases z with z | ⟨rfl,rfl⟩
   .obtain ⟨v,e,l⟩:=h.dn i j hi hj z x' y' ex ey;obtain ⟨v',e',l'⟩:=L i j v hi hj e;exact ⟨v',e',by omega⟩
   .rw[c1] at ex;cases ex;rw[c2] at ey;cases ey;rw[zeh h.sh ho ht,if_pos ⟨rfl,rfl⟩];exact ⟨_,rfl,zls _ _⟩
theorem Ph.fw3 {n mid one:Nat} {D t:Tab} {d:Nat->Nat->Prop} (h:Ph n mid D t d) (hm:mid < n) (ho:one < n) {q:Int} (hq:cell D mid mid=some q) (q0:0<=q):∀k,k<=n->Ph n mid D (fw3 mid one k t) (fun i j=>d i j\/(i=one/\j < k))
 | 0,_=>h.imp fun i j _ _ z=>by
  rcases z with z | z
  .exact z
  .omega
 | k+1,hk=>by
  have:=(Ph.fw3 h hm ho hq q0 k (by omega)).step hm ho (show k < n by omega) hq q0
  unfold My.fw3 at this ⊢;rw[zbk];refine this.imp fun i j _ _ z=>?_
  rcases z with z | ⟨z1,z2⟩
  .exact .inl (.inl z)
  .by_cases e:j=k
   .exact .inr ⟨z1,e⟩
   .exact .inl (.inr ⟨z1,by omega⟩)
theorem Ph.fw2 {n mid:Nat} {D:Tab} (hD:Shape n D) (hm:mid < n) {q:Int} (hq:cell D mid mid=some q) (q0:0<=q):∀k,k<=n->Ph n mid D (fw2 n mid k D) (fun i j=>i < k)
 | 0,_=>(Ph.start hD).imp fun i j _ _ z=>by omega
 | k+1,hk=>by
  have:=(Ph.fw2 hD hm hq q0 k (by omega)).fw3 hm (show k < n by omega) hq q0 n (Nat.le_refl _)
  unfold My.fw2 at this ⊢;rw[zbk];refine this.imp fun i j _ hj z=>?_
  by_cases e:i=k
  .exact .inr ⟨e,hj⟩
  .exact .inl (by omega)
def Tri (n:Nat) (D:Tab) (k:Nat):Prop:=∀m i j x y,m < k->i < n->j < n->cell D i m=some x->cell D m j=some y->∃z,cell D i j=some z/\z<=x+y
theorem Tri.step {n k:Nat} {D t:Tab} (T:Tri n D k) (hk:k < n) (P:Ph n k D t (fun i j=>i < n)) {q:Int} (hq:cell D k k=some q) (q0:0<=q):Tri n t (k+1):=by
 intro m i j x y hm hi hj ex ey;have lo:∀z,cell D i j=some z->∃z',cell t i j=some z'/\z'<=z:=fun z e=>by
  rcases P.alt i j hi hj with a | ⟨x',y',_,_,h3,h4⟩
  .exact ⟨z,a.trans e,Int.le_refl _⟩
  .exact ⟨_,h3,h4 z e⟩
 by_cases hmk:m=k
 .subst hmk;rw[P.col i hi] at ex;rw[P.row j hj] at ey;exact P.dn i j hi hj hi x y ex ey
 have hm':m < k:=by omega
 have hmn:m < n:=by omega
 rcases P.alt i m hi hmn with a | ⟨a1,b1,h1,h2,h3,_⟩
 .rcases P.alt m j hmn hj with b | ⟨c1,d1,g1,g2,g3,_⟩
  .rw[a] at ex;rw[b] at ey;obtain ⟨z,e,l⟩:=T m i j x y hm' hi hj ex ey;obtain ⟨z',e',l'⟩:=lo z e;exact ⟨z',e',by omega⟩
  .rw[a] at ex;rw[g3] at ey;cases ey;obtain ⟨z,e,l⟩:=T m i k x c1 hm' hi hk ex g1;obtain ⟨z',e',l'⟩:=P.dn i j hi hj hi z d1 e g2;exact ⟨z',e',by omega⟩
 .rw[h3] at ex;cases ex;rcases P.alt m j hmn hj with b | ⟨c1,d1,g1,g2,g3,_⟩
  .rw[b] at ey;obtain ⟨z,e,l⟩:=T m k j b1 y hm' hk hj h2 ey;obtain ⟨z',e',l'⟩:=P.dn i j hi hj hi a1 z h1 e;exact ⟨z',e',by omega⟩
  .rw[g3] at ey;cases ey;obtain ⟨z,e,l⟩:=T m k k b1 c1 hm' hk hk h2 g1;rw[hq] at e;cases e;obtain ⟨z',e',l'⟩:=P.dn i j hi hj hi a1 d1 h1 g2;exact ⟨z',e',by omega⟩
theorem zmc {n a b : Nat} {t : Tab} (h : a <= b) (hs : Shape n t) : LowT n (fw1 n a t) (fw1 n b t) := by
  induction b with
  | zero => have : a = 0 := by omega
            subst this; exact LowT.refl _ _
  | succ b ih =>
    by_cases e : a = b + 1
    . subst e; exact LowT.refl _ _
    . refine (ih (by omega)).trans ?_
      have : fw1 n (b + 1) t = fw2 n b n (fw1 n b t) := by unfold fw1; rw [zbk]
      rw [this];exact zk6 (zkW hs) (Nat.le_refl _)
theorem zln {n:Nat} {t:Tab} (H:Has n t) (hd:∀i,i < n->∀d,cell (fw1 n n t) i i=some d->0<=d):∀k,k<=n->Tri n (fw1 n k t) k
 | 0,_=>fun m i j x y hm=>by omega
 | k+1,hk=>by
  have T:=zln H hd k (by omega);obtain ⟨q',hq'⟩:=H.2 k (by omega);obtain ⟨q,hq,_⟩:=zlK (k:=k) H.1 k k q' (by omega) (by omega) hq';obtain ⟨qq,hqq,l⟩:=zmc (show k<=n by omega) H.1 k k q (by omega) (by omega) hq;have q0:0<=q:=by have:=hd k (by omega) qq hqq;omega
  have:fw1 n (k+1) t=fw2 n k n (fw1 n k t):=by unfold fw1;rw[zbk]
  rw[this];exact T.step (by omega) (Ph.fw2 (zkW H.1) (by omega) hq q0 n (Nat.le_refl _)) hq q0
theorem zm8 (rs:List Road) (n:Nat):Snd rs n (tab1 n n):=fun i j x hi hj e=>by
 rw[zgt n n (Nat.le_refl _) i j hi hj] at e
 by_cases h:i=j/\i < n
 .rw[if_pos h] at e;cases e;rw[h.1];exact .nil _
 .rw[if_neg h] at e;cases e
theorem zcZ {n:Int} {rs:List Road} (ok:zaL n rs) {r:Road} (hr:r∈rs):r.1.toNat < n.toNat/\r.2.1.toNat < n.toNat/\((r.1.toNat:Nat):Int)=r.1/\((r.2.1.toNat:Nat):Int)=r.2.1:=by
 obtain ⟨⟨a,b⟩,⟨c,d⟩,_⟩:=ok.rd r hr;omega
theorem zmr {n:Int} {rs:List Road} (ok:zaL n rs):Snd rs n.toNat (tab2 n.toNat rs):=
 zfm _ _ (fun t r hr hs S=>⟨zee hs,by
  obtain ⟨a,b,c,d⟩:=zcZ ok hr;exact zkF hs a b S (by rw[c,d];exact Wk.one hr)⟩) (zfN _ _) (zm8 rs _)
theorem zmy {n:Int} {rs:List Road} (ok:zaL n rs):LowT n.toNat (tab1 n.toNat n.toNat) (tab2 n.toNat rs):=
 zeN _ _ (fun t r hr hs=>⟨zee hs,zhF hs (zcZ ok hr).1 (zcZ ok hr).2.1⟩) (zfN _ _)
theorem zkY {n:Int} {rs:List Road} (ok:zaL n rs) {r:Road} (hr:r∈rs):∃c,cell (tab2 n.toNat rs) r.1.toNat r.2.1.toNat=some c/\c<=r.2.2:=by
 have key:∀(l:List Road) (t:Tab),(∀r∈l,r∈rs)->Shape n.toNat t->r∈l->∃c,cell (l.foldl zkh t) r.1.toNat r.2.1.toNat=some c/\c<=r.2.2:=by
  intro l
  induction l with
  | nil=>intro t _ _ h;simp at h
  | cons a l ih=>
   intro t hl hs hm;rw[List.foldl_cons];have ha:=zcZ ok (hl a List.mem_cons_self)
   by_cases h:r∈l
   .exact ih _ (fun x hx=>hl x (List.mem_cons_of_mem _ hx)) (zee hs) h
   .have e:r=a:=by
     rcases List.mem_cons.mp hm with z | z
     .exact z
     .exact absurd z h
    subst e
    have:=zeN (n:=n.toNat) (f:=zkh) l (zkh t r) (fun t r hr hs=>⟨zee hs,zhF hs (zcZ ok (hl r (List.mem_cons_of_mem _ hr))).1 (zcZ ok (hl r (List.mem_cons_of_mem _ hr))).2.1⟩) (zee hs)
    have hc:cell (zkh t r) r.1.toNat r.2.1.toNat=some (omin (cell t r.1.toNat r.2.1.toNat) r.2.2):=by
     unfold zkh;rw[zeh hs ha.1 ha.2.1,if_pos ⟨rfl,rfl⟩]
    obtain ⟨y,e1,e2⟩:=this _ _ _ ha.1 ha.2.1 hc;exact ⟨y,e1,Int.le_trans e2 (zls _ _)⟩
 exact key rs _ (fun _ h=>h) (zfN _ _) hr
theorem zhc {n:Int} {rs:List Road} (ok:zaL n rs):Snd rs n.toNat (zaP n.toNat rs):=zoX (ziN _ _) (zmr ok)
theorem zeP {n:Int} {rs:List Road} (ok:zaL n rs) (hd:∀i,i < n.toNat->∀d,cell (zaP n.toNat rs) i i=some d->0<=d) {p q L:Int} (w:Wk rs p q L) (hp:0<=p/\p < n) :
  ∃z,cell (zaP n.toNat rs) p.toNat q.toNat=some z/\z<=L:=by
 have hh:Has n.toNat (tab2 n.toNat rs):=zmZ fun r hr=>⟨(zcZ ok hr).1,(zcZ ok hr).2.1⟩
 have T:=zln hh hd n.toNat (Nat.le_refl _);have lo:=zlK (k:=n.toNat) (ziN n.toNat rs)
 induction w with
 | nil p=>
  have hi:p.toNat < n.toNat:=by omega
  have e:cell (tab1 n.toNat n.toNat) p.toNat p.toNat=some 0:=by rw[zgt _ _ (Nat.le_refl _) _ _ hi hi,if_pos ⟨rfl,hi⟩]
  exact ((zmy ok).trans lo) _ _ _ hi hi e
 | @cons r q L hr w ih=>
  obtain ⟨a,b,c,d⟩:=zcZ ok hr;obtain ⟨_,⟨t0,t1⟩,_⟩:=ok.rd r hr;obtain ⟨x,e1,l1⟩:=zkY ok hr;obtain ⟨x',e1',l1'⟩:=lo _ _ _ a b e1;obtain ⟨y,e2,l2⟩:=ih ⟨t0,t1⟩;have hq:=w.end_in (n:=n) (fun r hr=>⟨(ok.rd r hr).1,(ok.rd r hr).2.1⟩) ⟨t0,t1⟩;obtain ⟨z,e3,l3⟩:=T r.2.1.toNat r.1.toNat q.toNat x' y b a (by omega) e1' e2;exact ⟨z,e3,by omega⟩
theorem zgq {n:Int} {rs:List Road} (ok:zaL n rs):(∀i,i < n.toNat->∀d,cell (zaP n.toNat rs) i i=some d->0<=d)↔Taut rs:=by
 constructor
 .intro hd p L w
  cases id w with
  | nil=>exact Int.le_refl _
  | @cons r q L' hr w'=>
   obtain ⟨a,b,c,d⟩:=zcZ ok hr;obtain ⟨z,e,l⟩:=zeP ok hd w (ok.rd r hr).1
   have:=hd _ a z e
   omega
 .intro T i hi d e;exact T _ _ (zhc ok i i d hi hi e)
theorem zbu {n:Int} {rs:List Road} (ok:zaL n rs) (T:Taut rs) {p q:Int} (hp:0<=p/\p < n) (hq:0<=q/\q < n) {d:Int}:cell (zaP n.toNat rs) p.toNat q.toNat=some d↔Dist rs p q d:=by
 have hd:=(zgq ok).mpr T;have s:∀x,cell (zaP n.toNat rs) p.toNat q.toNat=some x->Wk rs p q x:=fun x e=>by
  have:=zhc ok p.toNat q.toNat x (by omega) (by omega) e
  rw[show ((p.toNat:Nat):Int)=p by omega,show ((q.toNat:Nat):Int)=q by omega] at this;exact this
 constructor
 .intro e;refine ⟨s d e,fun L w=>?_⟩;obtain ⟨z,e',l⟩:=zeP ok hd w hp;rw[e] at e';cases e';exact l
 .intro h;obtain ⟨z,e',l⟩:=zeP ok hd h.1 hp
  have:=h.2 z (s z e')
  have:z=d:=by omega
  rw[<-this];exact e'
theorem zej {n:Int} {rs:List Road} (ok:zaL n rs) (T:Taut rs) {p q:Int} (hp:0<=p/\p < n) (hq:0<=q/\q < n):cell (zaP n.toNat rs) p.toNat q.toNat=none↔∀L,¬Wk rs p q L:=by
 constructor
 .intro e L w;obtain ⟨z,e',_⟩:=zeP ok ((zgq ok).mpr T) w hp;rw[e] at e';cases e'
 .intro h
  cases e:cell (zaP n.toNat rs) p.toNat q.toNat with
  | none=>rfl
  | some d=>exact absurd ((zbu ok T hp hq).mp e).1 (h d)
def up1 {α:Type} (h:Int->α) (v:Int) (a:α):Int->α:=fun x=>if x=v then a else h x
theorem zdn {α:Type} (h:Int->α) (v:Int) (a:α):up1 h v a v=a:=if_pos rfl
theorem zc9 {α:Type} (h:Int->α) {v x:Int} (a:α) (hx:x≠v):up1 h v a x=h x:=if_neg hx
structure Bf where
 h:Int->Int
 e:Int->Option Int
 l:Option Int
def ziL (rs:List Road) (b:Bf) (k:Nat):Bf:=match rs[k]? with
 | some r=>if b.h r.1+r.2.2 < b.h r.2.1 then ⟨up1 b.h r.2.1 (b.h r.1+r.2.2),up1 b.e r.2.1 (some (k:Int)),some r.2.1⟩ else b
 | none=>b
def bfTo (rs:List Road) (b:Bf) (k:Nat):Bf:=(List.range k).foldl (ziL rs) { b with l:=none }
def zbz (rs:List Road) (b:Bf):Bf:=bfTo rs b rs.length
def zc7 (rs:List Road):Nat->Bf->Bf
 | 0,b=>b
 | k+1,b=>if (zbz rs b).l=none then zbz rs b else zc7 rs k (zbz rs b)
def zaB (n:Nat) (rs:List Road) (s:Int->Int):Bf:=zc7 rs n ⟨s,fun _=>none,none⟩
def Bk (rs:List Road) (e:Int->Option Int):Int->Int->List Int->Prop
 | x,y,[]=>x=y
 | x,y,k::ws=>e x=some k/\∃r,za2 rs k=some r/\Bk rs e r.1 y ws
structure BI (rs:List Road) (s h:Int->Int) (e:Int->Option Int):Prop where
 snd:∀v,∃u L,Wk rs u v L/\h v=s u+L
 ent:∀v k,e v=some k->∃r,za2 rs k=some r/\r.2.1=v/\h r.1+r.2.2<=h v/\h v < s v
 non:∀v,e v=none->h v=s v
 neg:∀x ws,ws≠[]->Bk rs e x x ws->za0 rs ws < 0
theorem zeQ {rs:List Road} {k:Nat} {r:Road} (h:rs[k]? = some r):za2 rs (k:Int)=some r:=by
 have hk:=(List.getElem?_eq_some_iff.mp h).1;unfold za2;rw[if_pos ⟨by omega,by omega⟩,Int.toNat_natCast,h]
theorem BI.start (rs:List Road) (s:Int->Int):BI rs s s (fun _=>none) where
 snd:=fun v=>⟨v,0,.nil v,by omega⟩
 ent:=fun v k h=>by cases h
 non:=fun v _=>rfl
 neg:=fun x ws hw h=>by
  cases ws with
  | nil=>exact absurd rfl hw
  | cons k ws=>cases h.1
theorem BI.tele {rs:List Road} {s h:Int->Int} {e:Int->Option Int} (B:BI rs s h e):∀{ws:List Int} {x y:Int},Bk rs e x y ws->h y+za0 rs ws<=h x
 | [],x,y,b=>by
  have:x=y:=b
  subst this;simp[za0]
 | k::ws,x,y,b=>by
  obtain ⟨e1,r,hr,b'⟩:=b;obtain ⟨r',hr',_,h3,_⟩:=B.ent x k e1;rw[hr] at hr';cases hr'
  have:=B.tele b'
  rw[zcU,zea hr];omega
theorem BI.step {rs:List Road} {s h:Int->Int} {e:Int->Option Int} (B:BI rs s h e) {k:Nat} {r:Road} (hr:rs[k]? = some r) (hlt:h r.1+r.2.2 < h r.2.1) :
  BI rs s (up1 h r.2.1 (h r.1+r.2.2)) (up1 e r.2.1 (some (k:Int))):=by
 have hrk:=zeQ hr;have hmem:=zcd hrk;have hle:∀x,up1 h r.2.1 (h r.1+r.2.2) x<=h x:=fun x=>by
  by_cases hx:x=r.2.1
  .rw[hx,zdn];omega
  .rw[zc9 _ _ hx];exact Int.le_refl _
 have ent':∀v j,up1 e r.2.1 (some (k:Int)) v=some j->∃r',za2 rs j=some r'/\r'.2.1=v/\up1 h r.2.1 (h r.1+r.2.2) r'.1+r'.2.2<=up1 h r.2.1 (h r.1+r.2.2) v/\up1 h r.2.1 (h r.1+r.2.2) v < s v/\(r'.1=r.2.1->up1 h r.2.1 (h r.1+r.2.2) r'.1+r'.2.2 < up1 h r.2.1 (h r.1+r.2.2) v):=by
  intro v j hv
  by_cases hx:v=r.2.1
  .subst hx;rw[zdn] at hv;cases hv;have hs:h r.2.1<=s r.2.1:=by
    cases hh:e r.2.1 with
    | none=>rw[B.non _ hh];exact Int.le_refl _
    | some j=>obtain ⟨_,_,_,_,q⟩:=B.ent _ _ hh;omega
   refine ⟨r,hrk,rfl, ?_, ?_, ?_⟩
   .rw[zdn];have:=hle r.1;omega
   .rw[zdn];omega
   .intro hu;rw[hu,zdn];rw[hu] at hlt;rw[<-hu] at *;omega
  .rw[zc9 _ _ hx] at hv;obtain ⟨r',h1,h2,h3,h4⟩:=B.ent v j hv;refine ⟨r',h1,h2, ?_, ?_, ?_⟩
   .rw[zc9 _ _ hx];have:=hle r'.1;omega
   .rw[zc9 _ _ hx];exact h4
   .intro hu;rw[zc9 _ _ hx,hu,zdn];rw[hu] at h3;omega
 refine ⟨fun v=>?_,fun v j hv=>?_,fun v hv=>?_,fun x ws hw hb=>?_⟩
 .by_cases hx:v=r.2.1
  .obtain ⟨u,L,w,e1⟩:=B.snd r.1;refine ⟨u,L+r.2.2, ?_,by rw[hx,zdn];omega⟩;rw[hx];exact w.trans (.one hmem)
  .obtain ⟨u,L,w,e1⟩:=B.snd v;exact ⟨u,L,w,by rw[zc9 _ _ hx];exact e1⟩
 .obtain ⟨r',a,b,c,d,_⟩:=ent' v j hv;exact ⟨r',a,b,c,d⟩
 .by_cases hx:v=r.2.1
  .rw[hx,zdn] at hv;cases hv
  .rw[zc9 _ _ hx] at hv ⊢;exact B.non v hv
 .-- the chain is an old one,or strictly shorter
  have key:∀(ws:List Int) (x y:Int),ws≠[]->Bk rs (up1 e r.2.1 (some (k:Int))) x y ws->
    (y≠r.2.1/\(x≠r.2.1->Bk rs e x y ws)/\up1 h r.2.1 (h r.1+r.2.2) y+za0 rs ws<=up1 h r.2.1 (h r.1+r.2.2) x)\/up1 h r.2.1 (h r.1+r.2.2) y+za0 rs ws < up1 h r.2.1 (h r.1+r.2.2) x:=by
   intro ws
   induction ws with
   | nil=>intro x y hn;exact absurd rfl hn
   | cons j ws ih=>
    intro x y _ hb;obtain ⟨e1,r',hr',b'⟩:=hb;obtain ⟨r2,h1,h2,h3,h4,h5⟩:=ent' x j e1;rw[hr'] at h1;cases h1;rw[zcU,zea hr']
    by_cases hv:r'.1=r.2.1
    .right
     have q:=h5 hv
     cases ws with
     | nil=>
      have hy:r'.1=y:=b';subst hy;simp only[za0,List.map_nil,List.sum_nil];omega
     | cons j' ws'=>
      rcases ih r'.1 y (by simp) b' with ⟨_,_,z⟩ | z<;>omega
    .cases ws with
     | nil=>
      have hy:r'.1=y:=b';subst hy
      left
      refine ⟨hv,fun hx=>⟨by rw[zc9 _ _ hx] at e1;exact e1,r',hr',rfl⟩, ?_⟩;simp only[za0,List.map_nil,List.sum_nil];omega
     | cons j' ws'=>
      rcases ih r'.1 y (by simp) b' with ⟨z1,z2,z3⟩ | z
      .left
       exact ⟨z1,fun hx=>⟨by rw[zc9 _ _ hx] at e1;exact e1,r',hr',z2 hv⟩,by omega⟩
      .right;omega
  rcases key ws x x hw hb with ⟨z1,z2,_⟩ | z
  .exact B.neg x ws hw (z2 z1)
  .omega
structure GI (rs:List Road) (b:Bf) (rd:Int->Nat) (k pos:Nat):Prop where
 en:∀v,1<=rd v->∃j r,b.e v=some j/\za2 rs j=some r/\rd v<=rd r.1+1
 ro:∀j r,rs[j]? = some r->b.h r.2.1<=b.h r.1+r.2.2\/k<=rd r.1+(if j < pos then 0 else 1)
 mx:∀v,rd v<=k
 la:∀v,b.l=some v->rd v=k
 nl:b.l=none->∀j r,j < pos->rs[j]? = some r->b.h r.2.1<=b.h r.1+r.2.2
structure BG (rs:List Road) (s:Int->Int) (b:Bf) (rd:Int->Nat) (k pos:Nat):Prop where
 bi:BI rs s b.h b.e
 gi:GI rs b rd k pos
theorem BG.step {rs:List Road} {s:Int->Int} {b:Bf} {rd:Int->Nat} {k pos:Nat} (G:BG rs s b rd (k+1) pos):∃rd',BG rs s (ziL rs b pos) rd' (k+1) (pos+1):=by
 unfold ziL
 cases e:rs[pos]? with
 | none=>
  refine ⟨rd,G.bi,G.gi.en,fun j r hj=>?_,G.gi.mx,G.gi.la,fun hn j r hj hr=>?_⟩
  .rcases G.gi.ro j r hj with z | z
   .exact .inl z
   .right
    by_cases hj2:j < pos
    .rw[if_pos hj2] at z;rw[if_pos (by omega)];exact z
    .have:j≠pos:=fun q=>by rw[q,e] at hj;cases hj
     rw[if_neg hj2] at z;rw[if_neg (by omega)];exact z
  .by_cases q:j=pos
   .rw[q,e] at hr;cases hr
   .exact G.gi.nl hn j r (by omega) hr
 | some r=>
  simp only
  by_cases hlt:b.h r.1+r.2.2 < b.h r.2.1
  .rw[if_pos hlt];have hro:k<=rd r.1:=by
    rcases G.gi.ro pos r e with z | z
    .omega
    .rw[if_neg (by omega)] at z;omega
   have hle:∀x,up1 b.h r.2.1 (b.h r.1+r.2.2) x<=b.h x:=fun x=>by
    by_cases hx:x=r.2.1
    .rw[hx,zdn];omega
    .rw[zc9 _ _ hx];exact Int.le_refl _
   have hge:∀x,rd x<=up1 rd r.2.1 (k+1) x:=fun x=>by
    by_cases hx:x=r.2.1
    .rw[hx,zdn];exact G.gi.mx _
    .rw[zc9 _ _ hx];exact Nat.le_refl _
   refine ⟨up1 rd r.2.1 (k+1),G.bi.step e hlt,fun v hv=>?_,fun j r' hj=>?_,fun v=>?_,fun v hv=>?_,fun hn=>by cases hn⟩
   .by_cases hx:v=r.2.1
    .subst hx;refine ⟨pos,r,zdn _ _ _,zeQ e, ?_⟩;rw[zdn]
     have:=hge r.1
     omega
    .rw[zc9 _ _ hx] at hv ⊢;obtain ⟨j,r',h1,h2,h3⟩:=G.gi.en v hv;refine ⟨j,r',by show up1 b.e r.2.1 _ v=_;rw[zc9 _ _ hx];exact h1,h2, ?_⟩
     have:=hge r'.1
     omega
   .by_cases hx:r'.1=r.2.1
    .right;rw[hx,zdn];exact Nat.le_add_right _ _
    .rw[show (Bf.mk (up1 b.h r.2.1 (b.h r.1+r.2.2)) (up1 b.e r.2.1 (some (pos:Int))) (some r.2.1)).h=up1 b.h r.2.1 (b.h r.1+r.2.2) from rfl]
     by_cases hp:j=pos
     .subst hp;rw[e] at hj;cases hj
      left
      rw[zdn,zc9 _ _ hx];exact Int.le_refl _
     .rcases G.gi.ro j r' hj with z | z
      .left
       have:=hle r'.2.1
       rw[zc9 _ _ hx];omega
      .right
       rw[zc9 _ _ hx]
       by_cases hj2:j < pos
       .rw[if_pos hj2] at z;rw[if_pos (by omega)];exact z
       .rw[if_neg hj2] at z;rw[if_neg (by omega)];exact z
   .by_cases hx:v=r.2.1
    .rw[hx,zdn];exact Nat.le_refl _
    .rw[zc9 _ _ hx];exact G.gi.mx v
   .cases hv;exact zdn _ _ _
  .rw[if_neg hlt];refine ⟨rd,G.bi,G.gi.en,fun j r' hj=>?_,G.gi.mx,G.gi.la,fun hn j r' hj hr=>?_⟩
   .by_cases hp:j=pos
    .subst hp;rw[e] at hj;cases hj;exact .inl (by omega)
    .rcases G.gi.ro j r' hj with z | z
     .exact .inl z
     .right
      by_cases hj2:j < pos
      .rw[if_pos hj2] at z;rw[if_pos (by omega)];exact z
      .rw[if_neg hj2] at z;rw[if_neg (by omega)];exact z
   .by_cases hp:j=pos
    .subst hp;rw[e] at hr;cases hr;omega
    .exact G.gi.nl hn j r' (by omega) hr
theorem BG.to {rs:List Road} {s:Int->Int} {b:Bf} {rd:Int->Nat} {k:Nat} (G:BG rs s { b with l:=none } rd (k+1) 0):∀pos,∃rd',BG rs s (bfTo rs b pos) rd' (k+1) pos
 | 0=>⟨rd,G⟩
 | pos+1=>by
  obtain ⟨rd',G'⟩:=BG.to G pos;obtain ⟨rd2,G2⟩:=G'.step;refine ⟨rd2, ?_⟩;unfold bfTo at G2 ⊢;rw[zbk];exact G2
theorem BG.next {rs:List Road} {s:Int->Int} {b:Bf} {rd:Int->Nat} {k:Nat} (G:BG rs s b rd k rs.length):BG rs s { b with l:=none } rd (k+1) 0:=
 ⟨G.bi,G.gi.en,fun j r hj=>by
  have hl:=(List.getElem?_eq_some_iff.mp hj).1;rcases G.gi.ro j r hj with z | z
  .exact .inl z
  .right
   rw[if_pos hl] at z;rw[if_neg (by omega)]
   omega,fun v=>Nat.le_succ_of_le (G.gi.mx v),fun v hv=>(by cases hv),fun _ j r hj=>by omega⟩
theorem BG.first (rs:List Road) (s:Int->Int):BG rs s ⟨s,fun _=>none,none⟩ (fun _=>0) 1 0:=
 ⟨BI.start rs s,fun v hv=>absurd hv (show ¬(1<=0) by omega),fun j r hj=>.inr (by rw[if_neg (by omega)];exact Nat.le_refl _),fun v=>Nat.zero_le _,fun v hv=>(by cases hv),fun _ j r hj=>by omega⟩
theorem ze7 {rs:List Road} {s:Int->Int}:∀(m:Nat) (b:Bf) (rd:Int->Nat) (k:Nat),BG rs s { b with l:=none } rd (k+1) 0->0 < m->
  BI rs s (zc7 rs m b).h (zc7 rs m b).e/\(((zc7 rs m b).l=none/\Pot rs (zc7 rs m b).h)\/∃(v:Int) (rd':Int->Nat),(zc7 rs m b).l=some v/\rd' v=k+m/\∀x,1<=rd' x->∃j r,(zc7 rs m b).e x=some j/\za2 rs j=some r/\rd' x<=rd' r.1+1)
 | 0,_,_,_,_,h=>absurd h (by omega)
 | m+1,b,rd,k,G,_=>by
  obtain ⟨rd',G'⟩:=G.to rs.length;unfold zc7
  by_cases hl:(zbz rs b).l=none
  .rw[if_pos hl];exact ⟨G'.bi,.inl ⟨hl,fun r hr=>by
    obtain ⟨i,hi,e⟩:=List.getElem_of_mem hr;exact G'.gi.nl hl i r hi (by simp[hi,e])⟩⟩
  .rw[if_neg hl]
   by_cases hm:m=0
   .subst hm;refine ⟨G'.bi,.inr ?_⟩
    cases e:(zbz rs b).l with
    | none=>exact absurd e hl
    | some v=>
     exact ⟨v,rd',by unfold zc7;exact e,G'.gi.la v e,fun x hx=>G'.gi.en x hx⟩
   .have:=ze7 m (zbz rs b) rd' (k+1) (BG.next G') (by omega)
    refine ⟨this.1, ?_⟩;rcases this.2 with z | ⟨v,rd2,z1,z2,z3⟩
    .exact .inl z
    .exact .inr ⟨v,rd2,z1,by omega,z3⟩
theorem zdt (n:Nat) (rs:List Road) (s:Int->Int):BI rs s (zaB n rs s).h (zaB n rs s).e:=by
 cases n with
 | zero=>exact BI.start rs s
 | succ n=>exact (ze7 (n+1) _ _ 0 (BG.first rs s) (Nat.succ_pos _)).1
theorem znD:∀(n:Nat) (f:Nat->Nat),(∀i,i<=n->f i < n)->∃i j,i < j/\j<=n/\f i=f j
 | 0,f,h=>absurd (h 0 (Nat.le_refl _)) (by omega)
 | n+1,f,h=>by
  by_cases hx:∃i,i<=n/\f i=f (n+1)
  .obtain ⟨i,hi,e⟩:=hx;exact ⟨i,n+1,by omega,Nat.le_refl _,e⟩
  .have hne:∀i,i<=n->f i≠f (n+1):=fun i hi e=>hx ⟨i,hi,e⟩
   have ha:=h (n+1) (Nat.le_refl _);obtain ⟨i,j,h1,h2,h3⟩:=znD n (fun i=>if f i=n then f (n+1) else f i) (fun i hi=>by
    have h1:=h i (by omega);have h2:=hne i hi
    show (if f i=n then f (n+1) else f i) < n
    split<;>omega)
   refine ⟨i,j,h1,by omega, ?_⟩;have h4:=hne i (by omega);have h5:=hne j h2;have h3':(if f i=n then f (n+1) else f i)=(if f j=n then f (n+1) else f j):=h3;split at h3'<;>split at h3'<;>omega
theorem zkL {n:Nat} (f:Nat->Int) (h:∀i,i<=n->0<=f i/\f i < n):∃i j,i < j/\j<=n/\f i=f j:=by
 obtain ⟨i,j,h1,h2,h3⟩:=znD n (fun i=>(f i).toNat) (fun i hi=>by have:=h i hi;omega);refine ⟨i,j,h1,h2, ?_⟩
 have:=h i (by omega)
 have:=h j h2
 have h3':(f i).toNat=(f j).toNat:=h3;omega
theorem ziz {n:Nat} {xs:List Int} (nd:xs.Nodup) (h:∀x∈xs,0<=x/\x < n):xs.length<=n:=by
 rcases Nat.lt_or_ge n xs.length with hl | hl
 .obtain ⟨i,j,h1,h2,h3⟩:=zkL (n:=n) (fun i=>xs.getD i 0) (fun i hi=>by
   have hi':i < xs.length:=by omega
   have:xs.getD i 0=xs[i]:=by simp[List.getD,hi']
   show 0<=xs.getD i 0/\xs.getD i 0 < n
   rw[this];exact h _ (List.getElem_mem hi'))
  have hi':i < xs.length:=by omega
  have hj':j < xs.length:=by omega
  have e1:xs.getD i 0=xs[i]:=by simp[List.getD,hi']
  have e2:xs.getD j 0=xs[j]:=by simp[List.getD,hj']
  have h3':xs.getD i 0=xs.getD j 0:=h3;rw[e1,e2] at h3'
  have:=(List.getElem_inj nd).mp h3'
  omega
 .exact hl
theorem zeB {rs:List Road}:∀{a b:List Int} {p m q:Int},zbC rs p m a=true->zbC rs m q b=true->zbC rs p q (a++b)=true
 | [],b,p,m,q,h,g=>by
  have:p=m:=by simpa [zbC] using h
  rw[this];exact g
 | k::a,b,p,m,q,h,g=>by
  unfold zbC at h;rw[List.cons_append];unfold zbC
  cases e:za2 rs k with
  | none=>rw[e] at h;cases h
  | some r=>
   rw[e] at h;simp only at h ⊢;split at h
   .rename_i hp;rw[if_pos hp];exact zeB h g
   .cases h
theorem zgk {rs:List Road} {k:Int} {r:Road} (h:za2 rs k=some r):zbC rs r.1 r.2.1 [k]=true:=by
 unfold zbC;rw[h];simp[zbC]
theorem zdq (rs:List Road) (ws:List Int):za0 rs ws.reverse=za0 rs ws:=by
 unfold za0;rw[List.map_reverse,List.sum_reverse]
theorem zfA {n:Int} {rs:List Road} (ok:zaL n rs):∀{ws:List Int},zmK rs ws->-(1000000000 * (ws.length:Int))<=za0 rs ws/\za0 rs ws<=1000000000 * (ws.length:Int)
 | [],_=>by simp[za0]
 | k::ws,h=>by
  have ih:=zfA ok (ws:=ws) fun j hj=>h j (List.mem_cons_of_mem _ hj)
  obtain ⟨h0,h1⟩:=h k List.mem_cons_self;obtain ⟨r,hr,_⟩:=zgE h0 h1;obtain ⟨_,_,l0,l1⟩:=ok.rd r (zcd hr);rw[zcU,zea hr,List.length_cons];omega
def zeT (rs:List Road) (k:Int):Int:=match za2 rs k with
 | some r=>r.1
 | none=>0
theorem zfw {rs:List Road} {k:Int} {r:Road} (h:za2 rs k=some r):zeT rs k=r.1:=by unfold zeT;rw[h]
theorem BI.leads {rs:List Road} {s h:Int->Int} {e:Int->Option Int} (B:BI rs s h e):∀{ws:List Int} {x y:Int},Bk rs e x y ws->zbC rs y x ws.reverse=true
 | [],x,y,b=>by
  have:x=y:=b
  subst this;simp[zbC]
 | k::ws,x,y,b=>by
  obtain ⟨e1,r,hr,b'⟩:=b;obtain ⟨r',hr',h2,_⟩:=B.ent x k e1;rw[hr] at hr';cases hr';rw[List.reverse_cons];refine zeB (B.leads b') ?_;rw[<-h2];exact zgk hr
theorem Bk.allIn {rs:List Road} {e:Int->Option Int}:∀{ws:List Int} {x y:Int},Bk rs e x y ws->zmK rs ws
 | [],_,_,_=>fun _ h=>by simp at h
 | k::ws,x,y,b=>fun j hj=>by
  obtain ⟨e1,r,hr,b'⟩:=b;rcases List.mem_cons.mp hj with rfl | hj
  .exact ⟨(zbF hr).1,(zbF hr).2.1⟩
  .exact Bk.allIn b' j hj
def stp (rs:List Road) (e:Int->Option Int) (x:Int):Int:=match e x with
 | some k=>zeT rs k
 | none=>x
def itr (rs:List Road) (e:Int->Option Int):Nat->Int->Int
 | 0,x=>x
 | j+1,x=>stp rs e (itr rs e j x)
theorem zj9 {rs:List Road} {e:Int->Option Int} {x k:Int} {r:Road} (h:e x=some k) (hr:za2 rs k=some r):stp rs e x=r.1:=by unfold stp;rw[h];exact zfw hr
theorem zgO {rs:List Road} {e:Int->Option Int} {x:Int}:∀(m a:Nat),(∀i,a<=i->i < a+m->∃k r,e (itr rs e i x)=some k/\za2 rs k=some r)->∃ws,Bk rs e (itr rs e a x) (itr rs e (a+m) x) ws/\ws.length=m
 | 0,a,_=>⟨[],rfl,rfl⟩
 | m+1,a,h=>by
  obtain ⟨ws,hb,hl⟩:=zgO m (a+1) (fun i h1 h2=>h i (by omega) (by omega));obtain ⟨k,r,h1,h2⟩:=h a (Nat.le_refl _) (by omega);refine ⟨k::ws,⟨h1,r,h2, ?_⟩,by simp[hl]⟩;have e1:itr rs e (a+1) x=r.1:=zj9 h1 h2;rw[<-e1,show a+(m+1)=a+1+m by omega];exact hb
theorem zme {rs:List Road} {e:Int->Option Int} {x:Int} {i j:Nat} (h:itr rs e i x=itr rs e j x):∀t,itr rs e (i+t) x=itr rs e (j+t) x
 | 0=>h
 | t+1=>by show stp rs e (itr rs e (i+t) x)=stp rs e (itr rs e (j+t) x);rw[zme h t]
theorem zil {rs:List Road} {e:Int->Option Int} {x:Int} {n:Nat} (hin:∀i,i<=n->0<=itr rs e i x/\itr rs e i x < n) (hen:∀i,i < n->∃k r,e (itr rs e i x)=some k/\za2 rs k=some r) :
  ∃ws,ws≠[]/\Bk rs e (itr rs e n x) (itr rs e n x) ws/\ws.length<=n:=by
 obtain ⟨i,j,h1,h2,h3⟩:=zkL (fun i=>itr rs e i x) hin;have h4:=zme h3 (n - j);rw[show j+(n - j)=n by omega] at h4;obtain ⟨ws,hb,hl⟩:=zgO (rs:=rs) (e:=e) (x:=x) (n - (i+(n - j))) (i+(n - j)) (fun a _ ha=>hen a (by omega));rw[show i+(n - j)+(n - (i+(n - j)))=n by omega,h4] at hb;exact ⟨ws,fun z=>by rw[z] at hl;simp at hl;omega,hb,by omega⟩
theorem zj7 {n:Int} {rs:List Road} (ok:zaL n rs) {s h:Int->Int} {e:Int->Option Int} (B:BI rs s h e) {x:Int} (hx:0<=x/\x < n):∀i,0<=itr rs e i x/\itr rs e i x < n
 | 0=>hx
 | i+1=>by
  show 0<=stp rs e (itr rs e i x)/\stp rs e (itr rs e i x) < n
  cases he:e (itr rs e i x) with
  | none=>unfold stp;rw[he];exact zj7 ok B hx i
  | some k=>
   obtain ⟨r,hr,_⟩:=B.ent _ k he;rw[zj9 he hr];exact (ok.rd r (zcd hr)).1
theorem BI.root {n:Int} {rs:List Road} (ok:zaL n rs) (T:Taut rs) {s h:Int->Int} {e:Int->Option Int} (B:BI rs s h e) {x:Int} (hx:0<=x/\x < n):∃y ws,Bk rs e x y ws/\e y=none/\(ws.length:Int)<=n - 1:=by
 have hin:=zj7 ok B hx
 by_cases hall:∀i,i < n.toNat->∃k,e (itr rs e i x)=some k
 .exfalso
  obtain ⟨ws,hne,hb,_⟩:=zil (rs:=rs) (e:=e) (x:=x) (n:=n.toNat) (fun i _=>by have:=hin i;omega) (fun i hi=>by
   obtain ⟨k,hk⟩:=hall i hi;obtain ⟨r,hr,_⟩:=B.ent _ k hk;exact ⟨k,r,hk,hr⟩)
  have h1:=B.neg _ ws hne hb;have h2:=T _ _ (zec (B.leads hb));rw[zdq] at h2;omega
 .-- the first one without an entry
  have hex:∃i,i < n.toNat/\e (itr rs e i x)=none:=by
   apply Classical.byContradiction;intro hno;refine hall fun i hi=>?_
   cases he:e (itr rs e i x) with
   | none=>exact absurd ⟨i,hi,he⟩ hno
   | some k=>exact ⟨k,rfl⟩
  have least:∀m,(∃i,i < m/\e (itr rs e i x)=none)->∃i,i < m/\e (itr rs e i x)=none/\∀j,j < i->e (itr rs e j x)≠none:=by
   intro m
   induction m with
   | zero=>rintro ⟨i,hi,_⟩;omega
   | succ m ih=>
    intro ⟨i,hi,he⟩
    by_cases hm:∃i,i < m/\e (itr rs e i x)=none
    .obtain ⟨j,h1,h2,h3⟩:=ih hm;exact ⟨j,by omega,h2,h3⟩
    .exact ⟨i,hi,he,fun j hj hn=>hm ⟨j,by omega,hn⟩⟩
  obtain ⟨i,hi,he,hj⟩:=least _ hex;obtain ⟨ws,hb,hl⟩:=zgO (rs:=rs) (e:=e) (x:=x) i 0 (fun a _ ha=>by
   cases h1:e (itr rs e a x) with
   | none=>exact absurd h1 (hj a (by omega))
   | some k=>
    obtain ⟨r,hr,_⟩:=B.ent _ k h1;exact ⟨k,r,rfl,hr⟩)
  rw[Nat.zero_add] at hb;exact ⟨_,ws,hb,he,by omega⟩
def FB (rs:List Road) (e:Int->Option Int) (y:Int):Int->List Int->Prop
 | _,[]=>False
 | x,k::ws=>e x=some k/\∃r,za2 rs k=some r/\((r.1=y/\ws=[])\/(r.1≠y/\FB rs e y r.1 ws))
theorem FB.ex {rs:List Road} {e:Int->Option Int} {y:Int}:∀{ws:List Int} {x:Int},ws≠[]->Bk rs e x y ws->∃ws',FB rs e y x ws'/\ws'.length<=ws.length
 | [],_,h,_=>absurd rfl h
 | k::ws,x,_,b=>by
  obtain ⟨e1,r,hr,b'⟩:=b
  by_cases hy:r.1=y
  .exact ⟨[k],⟨e1,r,hr,.inl ⟨hy,rfl⟩⟩,by simp⟩
  .have hne:ws≠[]:=fun z=>by rw[z] at b';exact hy b'
   obtain ⟨ws',h1,h2⟩:=FB.ex hne b';exact ⟨k::ws',⟨e1,r,hr,.inr ⟨hy,h1⟩⟩,by simp;omega⟩
theorem FB.bk {rs:List Road} {e:Int->Option Int} {y:Int}:∀{ws:List Int} {x:Int},FB rs e y x ws->Bk rs e x y ws
 | [],_,h=>h.elim
 | k::ws,x,h=>by
  obtain ⟨e1,r,hr,z⟩:=h;refine ⟨e1,r,hr, ?_⟩;rcases z with ⟨z1,z2⟩ | ⟨_,z2⟩
  .rw[z2];exact z1
  .exact FB.bk z2
theorem FB.ne {rs:List Road} {e:Int->Option Int} {y x:Int} {ws:List Int} (h:FB rs e y x ws):ws≠[]:=fun z=>by rw[z] at h;exact h
theorem FB.uniq {rs:List Road} {e:Int->Option Int} {y:Int}:∀{a b:List Int} {x:Int},FB rs e y x a->FB rs e y x b->a=b
 | [],_,_,h,_=>h.elim
 | _::_,[],_,_,h=>h.elim
 | k::a,j::b,x,h,g=>by
  obtain ⟨e1,r,hr,z⟩:=h;obtain ⟨e2,r2,hr2,z'⟩:=g;rw[e1] at e2;cases e2;rw[hr] at hr2;cases hr2;rcases z with ⟨z1,z2⟩ | ⟨z1,z2⟩
  .rcases z' with ⟨y1,y2⟩ | ⟨y1,y2⟩
   .rw[z2,y2]
   .exact absurd z1 y1
  .rcases z' with ⟨y1,y2⟩ | ⟨y1,y2⟩
   .exact absurd y1 z1
   .rw[FB.uniq z2 y2]
theorem FB.tail {rs:List Road} {e:Int->Option Int} {y z:Int} (hz:z≠y):∀{ws:List Int} {x:Int},FB rs e y x ws->z∈ws.map (zeT rs)->∃ws',FB rs e y z ws'/\ws'.length < ws.length
 | [],_,h,_=>h.elim
 | k::ws,x,h,hm=>by
  obtain ⟨e1,r,hr,w⟩:=h;rw[List.map_cons,zfw hr] at hm;rcases w with ⟨w1,w2⟩ | ⟨w1,w2⟩
  .rw[w2] at hm;simp at hm;exact absurd (hm.trans w1) hz
  .rcases List.mem_cons.mp hm with q | q
   .rw[q];exact ⟨ws,w2,by simp⟩
   .obtain ⟨ws',h1,h2⟩:=FB.tail hz w2 q;exact ⟨ws',h1,by simp;omega⟩
theorem FB.nodup {rs:List Road} {e:Int->Option Int} {y:Int}:∀{ws:List Int} {x:Int},FB rs e y x ws->(ws.map (zeT rs)).Nodup
 | [],_,h=>h.elim
 | k::ws,x,h=>by
  obtain ⟨e1,r,hr,w⟩:=h;rw[List.map_cons,zfw hr];rcases w with ⟨w1,w2⟩ | ⟨w1,w2⟩
  .rw[w2];simp
  .refine List.nodup_cons.mpr ⟨fun hm=>?_,FB.nodup w2⟩;obtain ⟨ws',h1,h2⟩:=FB.tail w1 w2 hm
   have:=FB.uniq h1 w2
   rw[this] at h2;omega
theorem FB.last {rs:List Road} {e:Int->Option Int} {y x:Int} (hz:x≠y) {ws:List Int} (h:FB rs e y x ws):x∉ws.map (zeT rs):=fun hm=>by
 obtain ⟨ws',h1,h2⟩:=FB.tail hz h hm;rw[FB.uniq h1 h] at h2;omega
theorem FB.len {n:Int} {rs:List Road} (ok:zaL n rs) {e:Int->Option Int} {y x:Int} {ws:List Int} (h:FB rs e y x ws):(ws.length:Int)<=n:=by
 have n0:=ok.n0;have hin:=h.bk.allIn
 have:=ziz (n:=n.toNat) h.nodup (fun z hz=>by
  obtain ⟨k,hk,rfl⟩:=List.mem_map.mp hz;obtain ⟨h0,h1⟩:=hin k hk;obtain ⟨r,hr,_⟩:=zgE h0 h1;rw[zfw hr]
  have:=(ok.rd r (zcd hr)).1
  omega)
 rw[List.length_map] at this;omega
theorem zgJ {n:Int} {rs:List Road} (ok:zaL n rs) (s:Int->Int) :
  ((zaB n.toNat rs s).l=none/\Pot rs (zaB n.toNat rs s).h)\/
  ∃v,(zaB n.toNat rs s).l=some v/\(0<=v/\v < n)/\(∀i,i < n.toNat->∃k r,(zaB n.toNat rs s).e (itr rs (zaB n.toNat rs s).e i v)=some k/\za2 rs k=some r)/\
   ∃ws,FB rs (zaB n.toNat rs s).e (itr rs (zaB n.toNat rs s).e n.toNat v) (itr rs (zaB n.toNat rs s).e n.toNat v) ws/\za0 rs ws < 0:=by
 have n0:=ok.n0
 by_cases hn:n.toNat=0
 .left
  rw[hn];refine ⟨rfl,fun r hr=>?_⟩
  have:=(ok.rd r hr).1
  omega
 .have B:=zdt n.toNat rs s;obtain ⟨_,z⟩:=ze7 n.toNat ⟨s,fun _=>none,none⟩ _ 0 (BG.first rs s) (by omega);rcases z with z | ⟨v,rd,h1,h2,h3⟩
  .exact .inl z
  .right
   change (zaB n.toNat rs s).l=some v at h1
   change ∀x,1<=rd x->∃j r,(zaB n.toNat rs s).e x=some j/\za2 rs j=some r/\rd x<=rd r.1+1 at h3
   generalize zaB n.toNat rs s=b at *;have hv:0<=v/\v < n:=by
    obtain ⟨j,r,e1,e2,_⟩:=h3 v (by omega);obtain ⟨r',e3,e4,_⟩:=B.ent v j e1;rw[e2] at e3;cases e3;rw[<-e4];exact (ok.rd r (zcd e2)).2.1
   have hrd:∀i,i<=n.toNat->n.toNat<=rd (itr rs b.e i v)+i:=by
    intro i
    induction i with
    | zero=>intro _;show n.toNat<=rd v+0;omega
    | succ i ih=>
     intro hi;have q:=ih (by omega);obtain ⟨j,r,e1,e2,e3⟩:=h3 _ (show 1<=rd (itr rs b.e i v) by omega)
     show n.toNat<=rd (stp rs b.e (itr rs b.e i v))+(i+1)
     rw[zj9 e1 e2];omega
   have hen:∀i,i < n.toNat->∃k r,b.e (itr rs b.e i v)=some k/\za2 rs k=some r:=fun i hi=>by
    obtain ⟨j,r,e1,e2,_⟩:=h3 _ (show 1<=rd (itr rs b.e i v) by have:=hrd i (by omega);omega);exact ⟨j,r,e1,e2⟩
   refine ⟨v,h1,hv,hen, ?_⟩;obtain ⟨ws,hne,hb,_⟩:=zil (rs:=rs) (e:=b.e) (x:=v) (n:=n.toNat) (fun i _=>by have:=zj7 ok B hv i;omega) hen;obtain ⟨ws',hf,_⟩:=FB.ex hne hb;exact ⟨ws',hf,B.neg _ ws' hf.ne hf.bk⟩
theorem zcQ {n:Int} {rs:List Road} (ok:zaL n rs) (T:Taut rs) (s:Int->Int):(zaB n.toNat rs s).l=none/\Pot rs (zaB n.toNat rs s).h:=by
 rcases zgJ ok s with z | ⟨v,_,_,_,ws,h1,h2⟩
 .exact z
 .exfalso
  have:=T _ _ (zec ((zdt n.toNat rs s).leads h1.bk))
  rw[zdq] at this;omega
theorem BI.le {rs:List Road} {s h:Int->Int} {e:Int->Option Int} (B:BI rs s h e) (v:Int):h v<=s v:=by
 cases hh:e v with
 | none=>rw[B.non _ hh];exact Int.le_refl _
 | some j=>obtain ⟨_,_,_,_,q⟩:=B.ent _ _ hh;omega
theorem BI.bk_eq {rs:List Road} {s h:Int->Int} {e:Int->Option Int} (B:BI rs s h e) (P:Pot rs h) {x y:Int} {ws:List Int} (b:Bk rs e x y ws):h x=h y+za0 rs ws:=by
 have h1:=B.tele b;have h2:=P.wk (zec (B.leads b));rw[zdq] at h2;omega
def farS (one far:Int):Int->Int:=fun x=>if x=one then 0 else far
theorem zlG {n:Int} {rs:List Road} (ok:zaL n rs) (T:Taut rs) {one far:Int} {v L:Int} (hv:0<=v/\v < n) (w:Wk rs one v L) (hL:L+1000000000 * (n - 1) < far) :
  ∃ws,Bk rs (zaB n.toNat rs (farS one far)).e v one ws/\(zaB n.toNat rs (farS one far)).e one=none/\(ws.length:Int)<=n - 1/\Dist rs one v (za0 rs ws)/\(zaB n.toNat rs (farS one far)).h v=za0 rs ws/\(zaB n.toNat rs (farS one far)).h one=0:=by
 have B:=zdt n.toNat rs (farS one far);have P:=(zcQ ok T (farS one far)).2;generalize zaB n.toNat rs (farS one far)=b at *;obtain ⟨y,ws,hb,hy,hl⟩:=B.root ok T hv;have h1:=B.bk_eq P hb;have h2:b.h one<=0:=by have:=B.le one;unfold farS at this;rw[if_pos rfl] at this;exact this
 have h3:=P.wk w;have hbd:=zfA ok hb.allIn;have h4:=B.non y hy;have hyo:y=one:=by
  apply Classical.byContradiction;intro hne;unfold farS at h4;rw[if_neg hne] at h4
  have:1000000000 * (ws.length:Int)<=1000000000 * (n - 1):=by omega
  omega
 subst hyo;have h5:b.h y=0:=by rw[h4];unfold farS;rw[if_pos rfl]
 refine ⟨ws,hb,hy,hl,⟨?_,fun M wM=>?_⟩,by omega,h5⟩
 .have:=zec (B.leads hb)
  rw[zdq] at this;exact this
 .have:=P.wk wM
  omega
theorem znV {n:Int} {rs:List Road} (ok:zaL n rs) (T:Taut rs) {one v L:Int} (hv:0<=v/\v < n) (w:Wk rs one v L):∃d,Dist rs one v d/\-(1000000000 * (n - 1))<=d/\d<=1000000000 * (n - 1):=by
 obtain ⟨ws,h1,_,h3,h4,_⟩:=zlG ok T (far:=L+1000000000 * (n - 1)+1) hv w (by omega)
 have:=zfA ok h1.allIn
 exact ⟨_,h4,by omega,by omega⟩
theorem zka {n:Int} {rs:List Road} (ok:zaL n rs) (T:Taut rs) {one v L:Int} (hv:0<=v/\v < n) (w:Wk rs one v L) :
  ∃ws,Bk rs (zaB n.toNat rs (farS one 40000000000)).e v one ws/\(zaB n.toNat rs (farS one 40000000000)).e one=none/\(ws.length:Int)<=n - 1/\Dist rs one v (za0 rs ws)/\(zaB n.toNat rs (farS one 40000000000)).h v=za0 rs ws/\(zaB n.toNat rs (farS one 40000000000)).h one=0:=by
 obtain ⟨d,h1,h2,h3⟩:=znV ok T hv w
 have:=ok.n1
 exact zlG ok T hv h1.1 (by omega)
theorem zqe {n:Int} {rs:List Road} (ok:zaL n rs) (T:Taut rs) {one v:Int} (hv:0<=v/\v < n):-20000000000<=(zaB n.toNat rs (farS one 40000000000)).h v/\(zaB n.toNat rs (farS one 40000000000)).h v<=40000000000:=by
 have B:=zdt n.toNat rs (farS one 40000000000);have P:=(zcQ ok T (farS one 40000000000)).2;generalize zaB n.toNat rs (farS one 40000000000)=b at *;obtain ⟨y,ws,hb,hy,hl⟩:=B.root ok T hv;have h1:=B.bk_eq P hb;have h4:=B.non y hy;have hbd:=zfA ok hb.allIn;have h5:=B.le v;have n1:=ok.n1;have c:∀x,0<=farS one 40000000000 x/\farS one 40000000000 x<=40000000000:=fun x=>by unfold farS;split<;>omega
 have:=c y
 have:=c v
 omega
end My
namespace L2
open PySem
theorem zcK {G:GF} {S:SF} {items:List O} {ρ:Rho} (I:Nat->Rho->Prop) (h0:I 0 ρ) (hs:∀i x ρ,items[i]? = some x->I i ρ->∃ρ1 ρ2,G x ρ=some ρ1/\S ρ1=.nx ρ2/\I (i+1) ρ2):∃ρ',forF G S items ρ=.nx ρ'/\I items.length ρ':=by
 induction items generalizing ρ I with
 | nil=>exact ⟨ρ,rfl,h0⟩
 | cons x xs ih=>
  obtain ⟨ρ1,ρ2,e1,e2,h1⟩:=hs 0 x ρ rfl h0;obtain ⟨ρ',e3,h3⟩:=ih (I:=fun i=>I (i+1)) (ρ:=ρ2) h1 fun i y ρ hy hi=>hs (i+1) y ρ (by simpa using hy) hi
  exact ⟨ρ',by rw[forF,e1];dsimp only;rw[e2];exact e3,by simpa using h3⟩
theorem zlf {js:List (Option Nat)} {G:GF} {T:TF} {A:EF} {items:List O} {ρ:Rho} {acc:List O} {q:Bool} (I:Nat->Rho->List O->Prop) (h0:I 0 ρ acc)
  (hs:∀i x ρ acc,items[i]? = some x->I i ρ acc->∃ρ1 ρ2 b q2,G x (zex js ρ)=some ρ1/\T ρ1=.ok b ρ2 q2/\((b=true/\∃r ρ3 q3 o ρ4,A ρ2=.ok r ρ3 q3/\coe ρ3 r=some (o,ρ4)/\I (i+1) (zdb js ρ4 (clrR js ρ)) (acc++[o]))\/(b=false/\I (i+1) (zdb js ρ2 (clrR js ρ)) acc))) :
  ∃os ρ' q',lcF js G T A items ρ acc q=.ok os ρ' q'/\I items.length ρ' os:=by
 induction items generalizing ρ acc q I with
 | nil=>exact ⟨acc,ρ,q,rfl,h0⟩
 | cons x xs ih=>
  obtain ⟨ρ1,ρ2,b,q2,e1,e2,h⟩:=hs 0 x ρ acc rfl h0;rcases h with ⟨rfl,r,ρ3,q3,o,ρ4,e3,e4,h1⟩ | ⟨rfl,h1⟩
  .obtain ⟨os,ρ',q',e5,h5⟩:=ih (I:=fun i=>I (i+1)) (ρ:=zdb js ρ4 (clrR js ρ)) (acc:=acc++[o]) (q:=q&&q2&&q3) h1 fun i y ρ acc hy hi=>hs (i+1) y ρ acc (by simpa using hy) hi
   exact ⟨os,ρ',q',by rw[lcF,e1];dsimp only;rw[e2];dsimp only;rw[if_pos rfl,e3];dsimp only;rw[e4];exact e5,by simpa using h5⟩
  .obtain ⟨os,ρ',q',e5,h5⟩:=ih (I:=fun i=>I (i+1)) (ρ:=zdb js ρ2 (clrR js ρ)) (acc:=acc) (q:=q&&q2) h1 fun i y ρ acc hy hi=>hs (i+1) y ρ acc (by simpa using hy) hi
   exact ⟨os,ρ',q',by rw[lcF,e1];dsimp only;rw[e2];dsimp only;rw[if_neg Bool.false_ne_true];exact e5,by simpa using h5⟩
theorem zfy {js:List (Option Nat)} {G:GF} {T:TF} {A:EF} {ρ:Rho} (p:O->Bool) (f:O->O):∀{items:List O} {acc:List O} {q:Bool},
  (∀x∈items,∃ρ1 ρ2 q2,G x (zex js ρ)=some ρ1/\T ρ1=.ok (p x) ρ2 q2/\(p x=true->∃r ρ3 q3 ρ4,A ρ2=.ok r ρ3 q3/\coe ρ3 r=some (f x,ρ4)/\zdb js ρ4 (clrR js ρ)=ρ)/\(p x=false->zdb js ρ2 (clrR js ρ)=ρ))->
  ∃q',lcF js G T A items ρ acc q=.ok (acc++(items.filter p).map f) ρ q'
 | [],acc,q,_=>⟨q,by simp[lcF]⟩
 | x::xs,acc,q,h=>by
  obtain ⟨ρ1,ρ2,q2,e1,e2,ht,hf⟩:=h x List.mem_cons_self;have h':∀y∈xs,_:=fun y hy=>h y (List.mem_cons_of_mem _ hy)
  cases hp:p x with
  | true=>
   obtain ⟨r,ρ3,q3,ρ4,e3,e4,e5⟩:=ht hp;obtain ⟨q',e⟩:=zfy p f (items:=xs) (acc:=acc++[f x]) (q:=q&&q2&&q3) h';refine ⟨q', ?_⟩;rw[lcF,e1];dsimp only;rw[e2,hp];dsimp only;rw[if_pos rfl,e3];dsimp only;rw[e4];dsimp only;rw[e5,e,List.filter_cons,if_pos hp];simp
  | false=>
   obtain ⟨q',e⟩:=zfy p f (items:=xs) (acc:=acc) (q:=q&&q2) h';refine ⟨q', ?_⟩;rw[lcF,e1];dsimp only;rw[e2,hp];dsimp only;rw[if_neg Bool.false_ne_true,hf hp,e,List.filter_cons,if_neg (by rw[hp];exact Bool.false_ne_true)]
@[simp] theorem zr8 (G:GF) (S:SF) (ρ:Rho):forF G S [] ρ=.nx ρ:=rfl
theorem zeA {j:Int} (h0:-4611686018427387904<=j) (h1:j < 4611686018427387904):okR j=true:=decide_eq_true ⟨by omega,by omega⟩
@[simp] theorem zr4 (I:Rho->Re (List O)) (G:GF) (S:SF) (ρ:Rho):sFor I G S ρ=match I ρ with
 | .bad=>.bad
 | .ex c ρ'=>.ex c ρ'
 | .ok items ρ' _=>forF G S items ρ':=rfl
@[simp] theorem zqZ (I:Rho->Re (Src×Bool)) (G:GF) (S:SF) (ρ:Rho):zhO I G S ρ=match I ρ with
 | .bad=>.bad
 | .ex c ρ'=>.ex c ρ'
 | .ok ((items,_),_) ρ' _=>forF G S items ρ':=rfl
def gR (j:Int) (ρ1:Rho) (q:Bool):Re (List O):=if okR j then .ok (rngO 0 j.toNat) ρ1 q else .bad
theorem zic {j:Int} {ρ1:Rho} {q:Bool} (h:okR j=true):gR j ρ1 q=.ok (rngO 0 j.toNat) ρ1 q:=if_pos h
@[simp] theorem zrV (A:EF) (ρ:Rho):itR1 A ρ=(eSc decI A ρ).bind gR:=rfl
@[simp] theorem zsz (A:EF) (ρ:Rho):itE A ρ=(A ρ).bind fun r ρ1 q=>match coe ρ1 r with
 | some (o,ρ2)=>match fz o with
  | some (.list ds)=>.ok (zdZ 0 ds) ρ2 q
  | _=>.bad
 | none=>.bad:=rfl
@[simp] theorem zr0 (view:Bool) (mk:List PyData->List O) (A:EF) (ρ:Rho):srcM view mk A ρ=(A ρ).bind fun r ρ1 q=>match (if view then zf7 ρ1 r else none) with
 | some (ds,k,i,oi)=>.ok ((mk ds,some (i,oi)),k) (ρ1.set i .z) q
 | none=>match cov ρ1 r with
  | some (ds,k,ρ2)=>.ok ((mk ds,none),k) ρ2 q
  | none=>.bad:=rfl
@[simp] theorem ztt (ρ:Rho) (r:Rv):cov ρ r=match coe ρ r with
 | some (o,ρ2)=>match fz o with
  | some (.list ds)=>some (ds,true,ρ2)
  | some (.tuple ds)=>some (ds,false,ρ2)
  | _=>none
 | none=>none:=rfl
@[simp] theorem zsc (take:Rho->Rv->Option (O×Rho)) (A C B:EF) (ρ:Rho):sSub take A C B ρ=match A ρ with
 | .bad=>.bad
 | .ex c ρ'=>.ex c ρ'
 | .ok r ρ' _=>match take ρ' r with
  | none=>.bad
  | some (o,ρ1)=>match C ρ1 with
   | .bad=>.bad
   | .ex c ρ'=>.ex c ρ'
   | .ok rc ρ2 _=>match eSc decI B ρ2 with
    | .bad=>.bad
    | .ex c ρ'=>.ex c ρ'
    | .ok k ρ3 q3=>if pok ρ2 q3 rc then match zfa ρ3 rc fun os=>(ixN os.length k).map fun j=>os.set j o with
      | some ρ4=>.nx ρ4
      | none=>.bad
     else .bad:=rfl
@[simp] theorem zl5 (ρ:Rho) (i:Nat) (h:List O->Option (List O)):zfa ρ (.at i []) h=match ρ[i]? with
  | some (.l os)=>match h os with
   | some os'=>some (ρ.set i (.l os'))
   | none=>none
  | _=>none:=by
 rw[zfa]
 cases ρ[i]? with
 | none=>rfl
 | some o=>
  cases o with
  | l os=>(simp[put])<;>(cases h os<;>rfl)
  | _=>rfl
@[simp] theorem zd2 (ρ:Rho) (i:Nat) (k:Int):gIx ρ (.at i []) k=match ρ[i]? with
  | some .z=>none
  | some o=>match els o with
   | some (_,os)=>match ixN os.length k with
    | some j=>match os[j]? with
     | some c=>ze9 (.at i []) j c
     | none=>none
    | none=>none
   | none=>(fIxS o k).map Rv.own
  | none=>none:=by
 unfold gIx;rw[znM]
 cases ρ[i]? with
 | none=>rfl
 | some o=>cases o<;>rfl
@[simp] theorem zcv (ρ:Rho) (o:O) (k:Int):gIx ρ (.own o) k=match nz (some o) with
  | none=>none
  | some o=>match els o with
   | some (_,os)=>match ixN os.length k with
    | some j=>match os[j]? with
     | some c=>ze9 (.own o) j c
     | none=>none
    | none=>none
   | none=>(fIxS o k).map Rv.own:=by
 unfold gIx
 have:vn ρ (.own o)=nz (some o):=by cases o<;>rfl
 rw[this]
 cases o<;>rfl
@[simp] theorem ztn (r:Rv) (k:Nat) (x:PyData):ze9 r k (.d x)=some (.own (.d x)):=rfl
@[simp] theorem zrQ (C A:EF) (ρ:Rho):eApp C A ρ=(C ρ).bind fun rc ρ1 q1=>if isL ρ1 rc then (A ρ1).bind fun ra ρ2 q2=>if pok ρ1 q2 rc then match coe ρ2 ra with
  | some (o,ρ3)=>match zfa ρ3 rc fun os=>if os.length < sizeLine then some (os++[o]) else none with
   | some ρ4=>.ok (.own (.d .none)) ρ4 false
   | none=>.bad
  | none=>.bad
 else .bad else .bad:=rfl
def lsy:Option O->Bool
 | some (.l _)=>true
 | some (.d (.list _))=>true
 | _=>false
@[simp] theorem zui (os:List O):lsy (some (.l os))=true:=rfl
@[simp] theorem zug (os:List PyData):lsy (some (.d (.list os)))=true:=rfl
@[simp] theorem zt5 (ρ:Rho) (i:Nat):isL ρ (.at i [])=lsy ρ[i]? := by
 unfold isL;rw[znM]
 cases ρ[i]? with
 | none=>rfl
 | some o=>
  cases o with
  | d x=>cases x<;>rfl
  | _=>rfl
@[simp] theorem zoM (I:Rho->Re (List O)) (js:List (Option Nat)) (G:GF) (T:TF) (A:EF) (ρ:Rho):eLC I js G T A ρ=match I ρ with
 | .bad=>.bad
 | .ex c ρ'=>.ex c ρ'
 | .ok items ρ1 q1=>if items.length<=sizeLine then match lcF js G T A items ρ1 [] true with
   | .ok os ρ2 q2=>.ok (.own (.l os)) ρ2 (q1&&q2)
   | _=>.bad
  else .bad:=rfl
@[simp] theorem ztw (I:Rho->Re (Src×Bool)) (js:List (Option Nat)) (G:GF) (T:TF) (A:EF) (ρ:Rho):eLS I js G T A ρ=match I ρ with
 | .bad=>.bad
 | .ex c ρ'=>.ex c ρ'
 | .ok ((items,rs),_) ρ1 q1=>if items.length<=sizeLine then match lcF js G T A items ρ1 [] true with
   | .ok os ρ2 q2=>.ok (.own (.l os)) (ziT rs ρ2) (q1&&q2)
   | _=>.bad
  else .bad:=rfl
@[simp] theorem zps (ρ:Rho):ziT none ρ=ρ:=rfl
@[simp] theorem zpr (ρ:Rho) (i:Nat) (o:O):ziT (some (i,o)) ρ=ρ.set i o:=rfl
@[simp] theorem zcr (lo:Int) (n:Nat):(rngO lo n).length=n:=by simp[rngO]
theorem zdR {lo:Int} {n i:Nat} {x:O} (h:(rngO lo n)[i]? = some x):i < n/\x=.d (.int (lo+i)):=by
 unfold rngO at h;rw[List.getElem?_map] at h
 by_cases hi:i < n
 .rw[List.getElem?_range hi] at h;cases h;exact ⟨hi,rfl⟩
 .rw[List.getElem?_eq_none (by simp;omega)] at h;cases h
@[simp] theorem zsO:mkT []=.d (.tuple []):=rfl
@[simp] theorem ztB (x y:PyData):mkT [.d x,.d y]=.d (.tuple [x,y]):=rfl
@[simp] theorem zt0 (x y z:PyData):mkT [.d x,.d y,.d z]=.d (.tuple [x,y,z]):=rfl
@[simp] theorem ztO (x:PyData):mkT [.d x]=.d (.tuple [x]):=rfl
end L2
namespace My
open PySem L2
theorem zms {b c:Int} (hb0:0<=b) (hb:b < 2147483647) (hc0:0<=c) (hc:c < 4611686018427387904):∃n:Int,zct [.d (.int b),.d (.int c)]=.ok (.d (.int n)) []/\0<=n/\n < 2147483587:=by
 have x0:=Int.emod_nonneg (b * 1103515245+7919 * c * c+c+1) (b:=2147483647) (by decide);have x1:=Int.emod_lt_of_pos (b * 1103515245+7919 * c * c+c+1) (b:=2147483647) (by decide);have m1:fMul (.d (.int b)) (.d (.int 1103515245))=some (.d (.int (b * 1103515245))):=zgX (by decide) (by decide);have m2:fMul (.d (.int 7919)) (.d (.int c))=some (.d (.int (7919 * c))):=zhU (by decide) (by decide);have m3:fMul (.d (.int (7919 * c))) (.d (.int c))=some (.d (.int (7919 * c * c))):=zgX (by omega) (by omega);have d1:fMod (.d (.int (b * 1103515245+7919 * c * c+c+1))) (.d (.int 2147483647))=some (.d (.int ((b * 1103515245+7919 * c * c+c+1) % 2147483647))):=zfU (by decide);generalize (b * 1103515245+7919 * c * c+c+1) % 2147483647=x at *;have m4:fMul (.d (.int x)) (.d (.int x))=some (.d (.int (x * x))):=zgX (by omega) (by omega);have d2:fMod (.d (.int (x * x+69621))) (.d (.int 2147483629))=some (.d (.int ((x * x+69621) % 2147483629))):=zfU (by decide);generalize (x * x+69621) % 2147483629=y at *;have m5:fMul (.d (.int y)) (.d (.int 48271))=some (.d (.int (y * 48271))):=zgX (by decide) (by decide);have d3:fMod (.d (.int (y * 48271))) (.d (.int 2147483587))=some (.d (.int (y * 48271 % 2147483587))):=zfU (by decide);refine ⟨y * 48271 % 2147483587, ?_,Int.emod_nonneg _ (by decide),Int.emod_lt_of_pos _ (by decide)⟩;unfold zct zdd;exact (zbX rfl (zaq (zaE (zax (zax (zax (zax (zax rfl rfl rfl rfl rfl m1) (zax (zax rfl rfl rfl rfl rfl m2) rfl rfl rfl rfl m3) rfl rfl rfl rfl) rfl rfl rfl rfl rfl) rfl rfl rfl rfl rfl) rfl rfl rfl rfl d1) rfl rfl) (zaq (zaE (zax (zax (zax rfl rfl rfl rfl rfl m4) rfl rfl rfl rfl rfl) rfl rfl rfl rfl d2) rfl rfl) (zbm (zax (zax rfl rfl rfl rfl rfl m5) rfl rfl rfl rfl d3) rfl))) rfl)
structure PuOk (p:O) (m:Int):Prop where
 ex:∃a b c:Int,p=.l [.d (.int a),.d (.int b),.d (.int c)]/\0<=a/\0<=b/\b < 2147483647/\0<=c/\c<=m
theorem PuOk.sh {p:O} {m:Int} (h:PuOk p m):∃a b c:Int,p=.l [.d (.int a),.d (.int b),.d (.int c)]:=by
 obtain ⟨a,b,c,e,_⟩:=h.ex;exact ⟨a,b,c,e⟩
theorem PuOk.mono {p:O} {m m':Int} (h:PuOk p m) (l:m<=m'):PuOk p m':=by
 obtain ⟨a,b,c,e,h0,h1,h2,h3,h4⟩:=h.ex;exact ⟨a,b,c,e,h0,h1,h2,h3,by omega⟩
theorem zts (ns:List Int) {k:Int} (h:0<=k):∃n:Int,zdo [.q (ns.map V.int),.d (.int k)]=.ok (.d (.int n)) []:=by
 unfold zdo zeb
 by_cases hk:k < ns.length
 .obtain ⟨j,rfl⟩:∃j:Nat,k=j:=⟨k.toNat,by omega⟩;have hj:j < ns.length:=by omega
  have:atI (ns.map V.int) (j:Int)=some (.int ns[j]):=zol (by rw[List.getElem?_map,List.getElem?_eq_getElem hj];rfl)
  simp[hj,fIxS,this]
 .simp[hk]
theorem zmQ (ns:List Int) {k:Int} (h:0<=k) (h2:k<=63):∃p,zbW [.q (ns.map V.int),.d (.int k)]=.ok p []/\PuOk p 63000:=by
 obtain ⟨n,e⟩:=zts ns h;unfold zbW zdf;refine ⟨.l [.d (.int (if n - 1000000000000000000 < 0 then 0 else n - 1000000000000000000)),.d (.int (n % 2147483647)),.d (.int (1000 * k))], ?_,⟨_,_,_,rfl, ?_⟩⟩
 .have fp:fPow (.d (.int 10)) (.d (.int 18))=some (.d (.int 1000000000000000000)):=rfl;have fm:fMod (.d (.int n)) (.d (.int 2147483647))=some (.d (.int (n % 2147483647))):=zfU (by decide);have mu:fMul (.d (.int 1000)) (.d (.int k))=some (.d (.int (1000 * k))):=zhU (by decide) (by decide);exact (zbX rfl (zaq (zaE (zbD (zad rfl (zad rfl rfl rfl) rfl) rfl e rfl) rfl rfl) (zbm (zaK (zad (zkH (zad (zax rfl (zax rfl rfl rfl rfl rfl fp) rfl rfl rfl rfl) (zad rfl rfl rfl) rfl) rfl rfl) (zad (zax rfl rfl rfl rfl rfl fm) (zad (zax rfl rfl rfl rfl rfl mu) rfl rfl) rfl) rfl) rfl (Nat.le_of_ble_eq_true rfl) rfl) rfl)) rfl)
 split<;>omega
theorem zoH {n:Int} (h0:0 < n) (h1:n < 1267650600228229401496703205376):0<=(Builtin.Int.intBits n:Int) / 30/\(Builtin.Int.intBits n:Int) / 30<=3:=by
 have:Builtin.Int.intBits n<=100:=by
  unfold Builtin.Int.intBits;split
  .omega
  .rename_i hz
   have:n.natAbs.log2 < 100:=(Nat.log2_lt (by omega)).mpr (by
    have:n.natAbs < 1267650600228229401496703205376:=by omega
    exact this)
   omega
 omega
theorem zkJ {a b c n:Int} {K:Nat} (hK:K<=4) (b0:0<=b) (b1:b < 2147483647) (c0:0<=c) (c1:c<=3000000000000000000):∃(N c':Int) (z:O),forF (gtN 4) zcc (rngO 0 K) [.l [.d (.int a),.d (.int b),.d (.int c)],.d (.int n),.z,.d (.int 0),.z]=.nx [.l [.d (.int a),.d (.int b),.d (.int c')],.d (.int n),.z,.d (.int N),z]/\c<=c'/\c'<=c+4:=by
 obtain ⟨ρ',e,N,c',z,rfl,hc0,hc1⟩:=zcK (G:=gtN 4) (S:=zcc) (items:=rngO 0 K) (ρ:=[.l [.d (.int a),.d (.int b),.d (.int c)],.d (.int n),.z,.d (.int 0),.z])
   (fun i ρ=>∃(N c':Int) (z:O),ρ=[.l [.d (.int a),.d (.int b),.d (.int c')],.d (.int n),.z,.d (.int N),z]/\c<=c'/\c'<=c+i) ⟨0,c,.z,rfl,by omega,by omega⟩ (fun i x ρ hx hx__=>by
    obtain ⟨N,c',z,e,h1,h2⟩:=hx__;obtain ⟨hi,rfl⟩:=zdR hx;subst e;obtain ⟨k,ek,_,_⟩:=zms (b:=b) (c:=c'+1) b0 b1 (by omega) (by omega);refine ⟨_,[.l [.d (.int a),.d (.int b),.d (.int (c'+1))],.d (.int n),.z,.d (.int (N * 2147483587+k)),.d (.int (0+i))],by exact rfl, ?_,_,_,_,rfl,by omega,by omega⟩;unfold zcc;simp (disch:=omega) [ixN,zgX,ek])
 rw[zcr] at hc1;exact ⟨N,c',z,e,hc0,by omega⟩
theorem zcS {p:O} {m n:Int} (hp:PuOk p m) (hm:m<=2305843009213693952) (h0:1<=n) (h1:n < 1267650600228229401496703205376):∃(r:Int) (p':O),zas [p,.d (.int n)]=.ok (.d (.int r)) [p']/\0<=r/\r < n/\PuOk p' (m+4):=by
 obtain ⟨a,b,c,rfl,a0,b0,b1,c0,c1⟩:=hp.ex;unfold zas zdx
 by_cases ha:0 < a
 .have q0:=Int.emod_nonneg a (by omega:n≠0);have q1:=Int.emod_lt_of_pos a (by omega:0 < n);refine ⟨a % n,.l [.d (.int (a / n)),.d (.int b),.d (.int c)], ?_,q0,q1,⟨_,_,_,rfl,Int.ediv_nonneg a0 (by omega),b0,b1,c0,by omega⟩⟩;simp (disch:=first | assumption | omega) [ixN,ha,zfU,zkb]
 .have hb:=zoH (by omega:0 < n) h1;have hB:zkp (.d (.int n))=some (.d (.int (Builtin.Int.intBits n))):=rfl;generalize (Builtin.Int.intBits n:Int)=B at hb hB;have hr:okR (1+B / 30)=true:=zeA (by omega) (by omega);obtain ⟨N,c',z,e,hc0,hc1⟩:=zkJ (a:=a) (b:=b) (c:=c) (n:=n) (K:=(1+B / 30).toNat) (by omega) b0 b1 c0 (by omega);refine ⟨N % n,.l [.d (.int a),.d (.int b),.d (.int c')], ?_,Int.emod_nonneg _ (by omega),Int.emod_lt_of_pos _ (by omega),⟨_,_,_,rfl,a0,b0,b1,by omega,by omega⟩⟩;clear h1 hm;simp -implicitDefEqProofs (disch:=first | assumption | omega) [ixN,ha,zfU,zkZ,-zou,hB,zic hr,e]
theorem zjQ (a b c d lo hi:Int) {g:Int} (h0:0<=g) (h1:g < 4) (ha:lo<=a/\a<=hi) (hb:lo<=b/\b<=hi) (hc:lo<=c/\c<=hi) (hd:lo<=d/\d<=hi):∃f:Int,([.d (.int a),.d (.int b),.d (.int c),.d (.int d)]:List O)[g.toNat]? = some (.d (.int f))/\lo<=f/\f<=hi:=by
 have hg:g=0\/g=1\/g=2\/g=3:=by omega
 rcases hg with rfl | rfl | rfl | rfl
 .exact ⟨a,rfl,ha⟩
 .exact ⟨b,rfl,hb⟩
 .exact ⟨c,rfl,hc⟩
 .exact ⟨d,rfl,hd⟩
theorem ziA {p:O} {m x:Int} (hp:PuOk p m) (hm:m<=1152921504606846976) (h0:1<=x) (h1:x<=4611686018427387904):∃(r:Int) (p':O),zbd [p,.d (.int x)]=.ok (.d (.int r)) [p']/\-(max x 30)<=r/\r<=max x 30/\PuOk p' (m+8):=by
 obtain ⟨M,hM,hx,h30,hMx⟩:∃M:Int,max x 30=M/\x<=M/\30<=M/\M<=4611686018427387904:=⟨max x 30,rfl,by omega,by omega,by omega⟩;rw[hM];clear hM;obtain ⟨g,p1,e1,g0,g1,hp1⟩:=zcS hp (by omega) (n:=4) (by decide) (by decide);have key:∀f:Int,1<=f->f<=M->∃(r:Int) (p':O),zas [p1,.d (.int (2 * f+1))]=.ok (.d (.int r)) [p']/\0<=r/\r < 2 * f+1/\PuOk p' (m+8):=fun f f0 f1=>by
  obtain ⟨r,p2,e2,r0,r1,hp2⟩:=zcS hp1 (by omega) (n:=2 * f+1) (by omega) (by omega);exact ⟨r,p2,e2,r0,r1,hp2.mono (by omega)⟩
 obtain ⟨a,b,c,rfl⟩:=hp.sh;obtain ⟨a1,b1,c1,rfl⟩:=hp1.sh;obtain ⟨f,hf,hv0,hv1⟩:=zjQ 1 4 30 x 1 M g0 g1 ⟨by decide,by omega⟩ ⟨by decide,by omega⟩ ⟨by decide,h30⟩ ⟨h0,hx⟩;obtain ⟨r,p2,e2,r0,r1,hp2⟩:=key f hv0 hv1;obtain ⟨a2,b2,c2,rfl⟩:=hp2.sh;refine ⟨r - f,.l [.d (.int a2),.d (.int b2),.d (.int c2)], ?_,by omega,by omega,hp2⟩;have gg:∀ρ:Rho,gIx ρ (.own (.l [.d (.int 1),.d (.int 4),.d (.int 30),.d (.int x)])) g=some (.own (.d (.int f))):=fun ρ=>zj4 hf g0 g1
 have m2:fMul (.d (.int 2)) (.d (.int f))=some (.d (.int (2 * f))):=zhU (by omega) (by omega);unfold zbd zcW;exact (zbX rfl (zaq (zaE (zbb (zaK (zad rfl (zad rfl (zad rfl (zad rfl rfl rfl) rfl) rfl) rfl) rfl (Nat.le_of_ble_eq_true rfl) rfl) (zaN (zaA (zad rfl (zad rfl rfl rfl) rfl) rfl e1 rfl rfl) rfl rfl) rfl (gg _)) rfl rfl) (zbm (zax (zaA (zad rfl (zad (zax (zax rfl rfl rfl rfl rfl m2) rfl rfl rfl rfl rfl) rfl rfl) rfl) rfl e2 rfl rfl) rfl rfl rfl rfl rfl) rfl)) rfl)
def zbM (rs:List Road):O:=.l (rs.map fun r=>.d (zar r))
def zal (hs:List Int):O:=.l (hs.map fun h=>.d (.int h))
@[simp] theorem zsi (ρ:Rho):clrR [] ρ=ρ:=rfl
@[simp] theorem zpK (js:List (Option Nat)) (ρ:Rho):clrR (none::js) ρ=clrR js ρ:=rfl
@[simp] theorem zq6 (i:Nat) (js:List (Option Nat)) (ρ:Rho):clrR (some i::js) ρ=clrR js (ρ.set i .z):=rfl
@[simp] theorem zqh (ρ:Rho):zex [] ρ=[]:=rfl
@[simp] theorem zpu (js:List (Option Nat)) (ρ:Rho):zex (none::js) ρ=.z::zex js ρ:=rfl
@[simp] theorem zpw (i:Nat) (js:List (Option Nat)) (ρ:Rho):zex (some i::js) ρ=(ρ[i]?).getD .z::zex js ρ:=rfl
@[simp] theorem zrm (r ρ:Rho):zdb [] r ρ=ρ:=by cases r<;>rfl
@[simp] theorem zpp (js:List (Option Nat)) (o:O) (r ρ:Rho):zdb (none::js) (o::r) ρ=zdb js r ρ:=rfl
@[simp] theorem zpt (i:Nat) (js:List (Option Nat)) (o:O) (r ρ:Rho):zdb (some i::js) (o::r) ρ=zdb js r (ρ.set i o):=rfl
theorem zsC {p:O} {m:Int} (n:Nat) (ws:List O) (hp:PuOk p m) (hm:m<=1125899906842624) (hn:n<=20):∃(hs:List Int) (p':O) (q:Bool),lcF [none,some 0] (gtN 0) (gRet true) zbY (rngO 0 n) (p::ws) [] true=.ok (hs.map fun h=>.d (.int h)) (p'::ws) q/\hs.length=n/\(∀h∈hs,-100000000<=h/\h<=100000000)/\PuOk p' (m+160):=by
 have:=zlf (js:=[none,some 0]) (G:=gtN 0) (T:=gRet true) (A:=zbY) (items:=rngO 0 n) (ρ:=p::ws) (acc:=[]) (q:=true)
  (fun i ρ acc=>∃(hs:List Int) (p':O),ρ=p'::ws/\acc=hs.map (fun h=>.d (.int h))/\hs.length=i/\(∀h∈hs,-100000000<=h/\h<=100000000)/\PuOk p' (m+8 * i)) ⟨[],p,rfl,rfl,rfl,by simp,by simpa using hp⟩
  (fun i x ρ acc hx hx__=>by
   obtain ⟨hs,p',e,ea,hl,hb,hp'⟩:=hx__;obtain ⟨hi,rfl⟩:=zdR hx;subst e ea;obtain ⟨r,p2,e2,r0,r1,hp2⟩:=ziA hp' (by omega) (x:=100000000) (by decide) (by decide);obtain ⟨_,_,_,rfl⟩:=hp'.sh;obtain ⟨a2,b2,c2,rfl⟩:=hp2.sh;refine ⟨_,_,true,true,by simp;rfl,by simp;rfl,.inl ⟨rfl,.own (.d (.int r)),[.d (.int i),.l [.d (.int a2),.d (.int b2),.d (.int c2)]],false,.d (.int r),_, ?_,by simp;rfl,hs++[r],_, ?_,by simp,by simp[hl], ?_,hp2.mono (by omega)⟩⟩
   .unfold zbY;exact (zaA (zad rfl (zad (zax rfl rfl rfl rfl rfl rfl) rfl rfl) rfl) rfl e2 rfl rfl)
   .exact rfl
   .intro h hh;rcases List.mem_append.mp hh with hh | hh
    .exact hb h hh
    .obtain rfl:=List.mem_singleton.mp hh
     omega)
 obtain ⟨os,ρ',q',e,hs,p',rfl,rfl,hl,hb,hp'⟩:=this;rw[zcr] at hl hp';exact ⟨hs,p',q',e,hl,hb,hp'.mono (by omega)⟩
theorem zmG {p:O} {m c:Int} {w1 w2:O} (hp:PuOk p m) (hm:m<=1125899906842624) (c0:0<=c) (c1:c<=20):∃(hs:List Int) (p':O) (q:Bool),eLC (itR1 (zab 3)) [none,some 0] (gtN 0) (gRet true) zbY [p,w1,w2,.d (.int c),.z,.z,.z,.z,.z,.z]=.ok (.own (zal hs)) [p',w1,w2,.d (.int c),.z,.z,.z,.z,.z,.z] q/\hs.length=c.toNat/\(∀h∈hs,-100000000<=h/\h<=100000000)/\PuOk p' (m+160):=by
 have hr:okR c=true:=zeA (by omega) (by omega);obtain ⟨hs,p',q',e,hl,hb,hp'⟩:=zsC c.toNat [w1,w2,.d (.int c),.z,.z,.z,.z,.z,.z] hp hm (by omega);refine ⟨hs,p',q', ?_,hl,hb,hp'⟩;obtain ⟨_,_,_,rfl⟩:=hp.sh;simp (disch:=omega) [zic hr,e,zbR,zal]
theorem zdi {A B:SF} {ρ ρ':Rho} (h:A ρ=.nx ρ'):sSeq A B ρ=B ρ':=by simp[h]
theorem zk9 {p:O} {m:Int} {w1 w2 w3 w4 w5 w6 w7 w8 w9:O} (hp:PuOk p m) (hm:m<=1125899906842624):∃(s:Int) (p':O),(sAsg coe (eIx (zaQ coes .l (zae (eC (.int 0)) (zae (eC (.int 0)) (zae (zan [true,false] zas (zae (zab 0) (zae (eC (.int 4)) aNil))) (zae (zan [true,false] zas (zae (zab 0) (zae (e2 (eC (.int 10)) (eC (.int 8)) fPow) aNil))) aNil))))) (zan [true,false] zas (zae (zab 0) (zae (eC (.int 4)) aNil)))) (gtN 9)) [p,w1,w2,w3,w4,w5,w6,w7,w8,w9]=.nx [p',w1,w2,w3,w4,w5,w6,w7,w8,.d (.int s)]/\0<=s/\s<=100000000/\PuOk p' (m+12):=by
 refine hide fun P key=>?_
 obtain ⟨a1,b1,c1,rfl⟩:=hp.sh;obtain ⟨d1,p1,e1,l1,u1,hp1⟩:=zcS hp (by omega) (n:=4) (by decide) (by decide);obtain ⟨a1,b1,c1,rfl⟩:=hp1.sh;obtain ⟨d2,p2,e2,l2,u2,hp2⟩:=zcS hp1 (by omega) (n:=100000000) (by decide) (by decide);obtain ⟨a1,b1,c1,rfl⟩:=hp2.sh;obtain ⟨d3,p3,e3,l3,u3,hp3⟩:=zcS hp2 (by omega) (n:=4) (by decide) (by decide);obtain ⟨a1,b1,c1,rfl⟩:=hp3.sh;obtain ⟨s,hs,hv0,hv1⟩:=zjQ 0 0 d1 d2 0 100000000 l3 u3 (by omega) (by omega) (by omega) (by omega);have gg:∀ρ:Rho,gIx ρ (.own (.l [.d (.int 0),.d (.int 0),.d (.int d1),.d (.int d2)])) d3=some (.own (.d (.int s))):=fun ρ=>zj4 hs l3 u3
 have fp:fPow (.d (.int 10)) (.d (.int 8))=some (.d (.int 100000000)):=rfl;exact key ⟨s,_,by exact (zaE (zbb (zaK (zad rfl (zad rfl (zad (zaA (zad rfl (zad rfl rfl rfl) rfl) rfl e1 rfl rfl) (zad (zaA (zad rfl (zad (zax rfl rfl rfl rfl rfl fp) rfl rfl) rfl) rfl e2 rfl rfl) rfl rfl) rfl) rfl) rfl) rfl (Nat.le_of_ble_eq_true rfl) rfl) (zaN (zaA (zad rfl (zad rfl rfl rfl) rfl) rfl e3 rfl rfl) rfl rfl) rfl (gg _)) rfl rfl),hv0,hv1,hp3.mono (by omega)⟩
theorem zpo {p w1 w2 w3 w6:O} {hs:List Int} {rs:List Road} {i j s:Int} (hi:0<=i/\i < hs.length) (hj:0<=j/\j < hs.length) (hl:rs.length<=1000):(zbQ (eApp (zab 5) (zaQ coes mkT (zae (zab 7) (zae (zab 8) (zae (e2 (e2 (eIx (zab 4) (zab 8)) (eIx (zab 4) (zab 7)) fSub) (zab 9) fAdd) aNil)))))) [p,w1,w2,w3,zal hs,zbM rs,w6,.d (.int i),.d (.int j),.d (.int s)]=.nx [p,w1,w2,w3,zal hs,zbM (rs++[(i,j,hs.getD j.toNat 0 - hs.getD i.toNat 0+s)]),w6,.d (.int i),.d (.int j),.d (.int s)]:=by
 have get:∀k:Int,0<=k/\k < hs.length->hs[k.toNat]? = some (hs.getD k.toNat 0):=fun k hk=>by
  rw[List.getD_eq_getElem?_getD,List.getElem?_eq_getElem (by omega)];rfl
 have ei:=get i hi;have ej:=get j hj;generalize hs.getD i.toNat 0=x at *;generalize hs.getD j.toNat 0=y at *;have gi:∀ρ:Rho,ρ[4]? = some (zal hs)->gIx ρ (.at 4 []) i=some (.own (.d (.int x))):=fun ρ z=>zi8 (by rw[List.getElem?_map,ei];rfl) hi.1 (by simpa using hi.2) z
 have gj:∀ρ:Rho,ρ[4]? = some (zal hs)->gIx ρ (.at 4 []) j=some (.own (.d (.int y))):=fun ρ z=>zi8 (by rw[List.getElem?_map,ej];rfl) hj.1 (by simpa using hj.2) z
 have hl':(rs.map fun r=>O.d (zar r)).length < sizeLine:=zfb (by simp;omega);have hm':zbM (rs++[(i,j,y - x+s)])=.l (rs.map (fun r=>.d (zar r))++[.d (.tuple [.int i,.int j,.int (y - x+s)])]):=by
  unfold zbM zar;simp
 rw[hm'];exact (zbv (zgu rfl rfl (zaK (zad rfl (zad rfl (zad (zax (zax (zbb rfl (zaN rfl rfl rfl) rfl (gj _ rfl)) (zbb rfl (zaN rfl rfl rfl) rfl (gi _ rfl)) rfl rfl rfl rfl) rfl rfl rfl rfl rfl) rfl rfl) rfl) rfl) rfl (Nat.le_of_ble_eq_true rfl) rfl) rfl rfl (zdu rfl hl')))
@[simp] theorem zns (a b:Int):fEq false (.d (.int a)) (.d (.int b))=some (.d (.bool (a==b))):=by
 exact rfl
@[simp] theorem ztV (a b:Int):fEq true (.d (.int a)) (.d (.int b))=some (.d (.bool (!(a==b)))):=by
 exact rfl
theorem zm5 {p:O} {m:Int} {w1 w2 w3 w4 w6 w7 w8 w9:O} {rs:List Road} (hp:PuOk p m) (hm:m<=1125899906842624) (hl:rs.length<=1000) (hn:0 < rs.length):∃(rs':List Road) (p':O),(sIf (tst (e2 (zan [true,false] zas (zae (zab 0) (zae (eC (.int 8)) aNil))) (eC (.int 0)) (fEq false))) (zbQ (eApp (zab 5) (eIx (zab 5) (zan [true,false] zas (zae (zab 0) (zae (eB (zae (zab 5) aNil) (f1 fLen)) aNil)))))) sNil) [p,w1,w2,w3,w4,zbM rs,w6,w7,w8,w9]=.nx [p',w1,w2,w3,w4,zbM rs',w6,w7,w8,w9]/\rs'.length<=rs.length+1/\(∀r∈rs',r∈rs)/\PuOk p' (m+8):=by
 obtain ⟨a1,b1,c1,rfl⟩:=hp.sh;obtain ⟨d1,p1,e1,l1,u1,hp1⟩:=zcS hp (by omega) (n:=8) (by decide) (by decide);obtain ⟨a1,b1,c1,rfl⟩:=hp1.sh
 by_cases h:d1=0
 .subst h;obtain ⟨d2,p2,e2,l2,u2,hp2⟩:=zcS hp1 (by omega) (n:=rs.length) (by omega) (by omega);obtain ⟨a1,b1,c1,rfl⟩:=hp2.sh;have er:rs[d2.toNat]? = some (rs.getD d2.toNat (0,0,0)):=by
   rw[List.getD_eq_getElem?_getD,List.getElem?_eq_getElem (by omega)];rfl
  have hm:=List.mem_of_getElem? er;generalize rs.getD d2.toNat (0,0,0)=r at *;refine ⟨rs++[r],_, ?_,by simp, ?_,hp2.mono (by omega)⟩
  .have gi:∀ρ:Rho,ρ[5]? = some (zbM rs)->gIx ρ (.at 5 []) d2=some (.own (.d (zar r))):=fun ρ z=>zi8 (by rw[List.getElem?_map,er];rfl) l2 (by simpa using u2) z
   have hl':(rs.map fun r=>O.d (zar r)).length < sizeLine:=zfb (by simp;omega);have ln:f1 fLen [zbM rs]=some (.d (.int (rs.length:Int))):=by simp[f1,zbM,els]
   have z0:fEq false (.d (.int 0)) (.d (.int 0))=some (.d (.bool true)):=zns 0 0;have hm':zbM (rs++[r])=.l (rs.map (fun r=>.d (zar r))++[.d (zar r)]):=by
    unfold zbM;simp
   rw[hm'];exact (if_t (za4 (zax (zaA (zad rfl (zad rfl rfl rfl) rfl) rfl e1 rfl rfl) rfl rfl rfl rfl z0) rfl) (zbv (zgu rfl rfl (zbb rfl (zaN (zaA (zad rfl (zad (zkH (zad rfl rfl rfl) rfl ln) rfl rfl) rfl) rfl e2 rfl rfl) rfl rfl) rfl (gi _ rfl)) rfl rfl (zdu rfl hl'))))
  .intro x hx;rcases List.mem_append.mp hx with hx | hx
   .exact hx
   .obtain rfl:=List.mem_singleton.mp hx;exact hm
 .refine ⟨rs,_, ?_,by omega,fun r hr=>hr,hp1.mono (by omega)⟩;have z0:fEq false (.d (.int d1)) (.d (.int 0))=some (.d (.bool false)):=by simp[h]
  exact (if_f (za4 (zax (zaA (zad rfl (zad rfl rfl rfl) rfl) rfl e1 rfl rfl) rfl rfl rfl rfl z0) rfl) rfl)
def netO (n:Int) (rs:List Road):O:=.t [.d (.int n),zbM rs]
def hgt (hs:List Int) (v:Int):Int:=hs.getD v.toNat 0
structure RdOk (n:Int) (hs:List Int) (rs:List Road):Prop where
 rd:∀r∈rs,zq2 n 300000000 r
 pot:Pot rs (hgt hs)
 slk:∀r∈rs,r.2.2<=hgt hs r.2.1 - hgt hs r.1+100000000
def Slk (rs:List Road):Prop:=∃h:Int->Int,(∀v,-100000000<=h v/\h v<=100000000)/\Pot rs h/\∀r∈rs,r.2.2<=h r.2.1 - h r.1+100000000
theorem zoG {hs:List Int} (hb:∀h∈hs,-100000000<=h/\h<=100000000) (v:Int):-100000000<=hgt hs v/\hgt hs v<=100000000:=by
 unfold hgt;rw[List.getD_eq_getElem?_getD]
 cases e:hs[v.toNat]? with
 | none=>simp
 | some x=>exact hb x (List.mem_of_getElem? e)
theorem RdOk.add {n:Int} {hs:List Int} {rs rs':List Road} {i k s:Int} (hr:RdOk n hs rs) (hb:∀h∈hs,-100000000<=h/\h<=100000000) (hi:0<=i/\i < n) (hk:0<=k/\k < n) (h0:0<=s) (h1:s<=100000000) (m:∀r∈rs',r∈rs++[(i,k,hgt hs k - hgt hs i+s)]):RdOk n hs rs':=by
 have bi:=zoG hb i;have bk:=zoG hb k;refine ⟨fun r h=>?_,fun r h=>?_,fun r h=>?_⟩
 .rcases List.mem_append.mp (m r h) with h | h
  .exact hr.rd r h
  .obtain rfl:=List.mem_singleton.mp h;exact ⟨hi,hk,by dsimp only;omega,by dsimp only;omega⟩
 .rcases List.mem_append.mp (m r h) with h | h
  .exact hr.pot r h
  .obtain rfl:=List.mem_singleton.mp h;dsimp only;omega
 .rcases List.mem_append.mp (m r h) with h | h
  .exact hr.slk r h
  .obtain rfl:=List.mem_singleton.mp h;dsimp only;omega
theorem zmO {p:O} {m c:Int} {w1 w2 w6 w7 w8 w9:O} {hs:List Int} {rs:List Road} (hp:PuOk p m) (hm:m<=1125899906842024) (c0:0 < c) (c1:c<=20) (hl:hs.length=c.toNat) (hb:∀h∈hs,-100000000<=h/\h<=100000000) (hr:RdOk c hs rs) (hn:rs.length<=900) :
  ∃(rs':List Road) (p' w7' w8' w9':O),zcu [p,w1,w2,.d (.int c),zal hs,zbM rs,w6,w7,w8,w9]=.nx [p',w1,w2,.d (.int c),zal hs,zbM rs',w6,w7',w8',w9']/\rs'.length<=rs.length+2/\RdOk c hs rs'/\PuOk p' (m+28):=by
 refine hide fun P key=>?_
 obtain ⟨x0,y0,z0,rfl⟩:=hp.sh;obtain ⟨i,p1,e1,l1,u1,hp1⟩:=zcS hp (by omega) (n:=c) (by omega) (by omega);obtain ⟨x1,y1,z1,rfl⟩:=hp1.sh;obtain ⟨j,p2,e2,l2,u2,hp2⟩:=zcS hp1 (by omega) (n:=c) (by omega) (by omega);obtain ⟨s,p3,e3,l3,u3,hp3⟩:=zk9 (w1:=w1) (w2:=w2) (w3:=.d (.int c)) (w4:=zal hs) (w5:=zbM rs) (w6:=w6) (w7:=.d (.int i)) (w8:=.d (.int j)) (w9:=w9) hp2 (by omega);have e4:=zpo (p:=p3) (w1:=w1) (w2:=w2) (w3:=.d (.int c)) (w6:=w6) (hs:=hs) (rs:=rs) (i:=i) (j:=j) (s:=s) ⟨l1,by omega⟩ ⟨l2,by omega⟩ (by omega);obtain ⟨rs',p5,e5,l5,m5,hp5⟩:=zm5 (rs:=rs++[(i,j,hs.getD j.toNat 0 - hs.getD i.toNat 0+s)]) (w1:=w1) (w2:=w2) (w3:=.d (.int c)) (w4:=zal hs) (w6:=w6) (w7:=.d (.int i)) (w8:=.d (.int j)) (w9:=.d (.int s)) hp3 (by omega) (by simp;omega) (by simp);obtain ⟨x2,y2,z2,rfl⟩:=hp2.sh;refine key ⟨rs',p5,.d (.int i),.d (.int j),.d (.int s), ?_,by simp at l5;omega,hr.add hb ⟨l1,u1⟩ ⟨l2,u2⟩ l3 u3 m5,hp5.mono (by omega)⟩;unfold zcu;rw[zdi (ρ':=[.l [.d (.int x1),.d (.int y1),.d (.int z1)],w1,w2,.d (.int c),zal hs,zbM rs,w6,.d (.int i),w8,w9]) (zaE (zaA (zad rfl (zad rfl rfl rfl) rfl) rfl e1 rfl rfl) rfl rfl)];rw[zdi (ρ':=[.l [.d (.int x2),.d (.int y2),.d (.int z2)],w1,w2,.d (.int c),zal hs,zbM rs,w6,.d (.int i),.d (.int j),w9]) (zaE (zaA (zad rfl (zad rfl rfl rfl) rfl) rfl e2 rfl rfl) rfl rfl)];rw[zdi e3,zdi e4];exact e5
theorem zph {p:O} {m:Int} {most many:Int} (hp:PuOk p m) (hm:m<=562949953421312) (a0:0<=most) (a1:most<=19) (b0:0<=many) (b1:many<=30) :
  ∃(n:Int) (rs:List Road) (p':O),zbs [p,.d (.int most),.d (.int many)]=.ok (netO n rs) [p']/\NetB n 300000000 most.toNat (2 * many.toNat) rs/\Slk rs/\PuOk p' (m+2000):=by
 refine hide fun P key=>?_
 obtain ⟨x0,y0,z0,rfl⟩:=hp.sh;obtain ⟨c,p1,e1,l1,u1,hp1⟩:=zcS hp (by omega) (n:=most+1) (by omega) (by omega);obtain ⟨hs,p2,q,e2,hl,hb,hp2⟩:=zmG (w1:=.d (.int most)) (w2:=.d (.int many)) (c:=c) hp1 (by omega) (by omega) (by omega);obtain ⟨k,p3,e3,l3,u3,hp3⟩:=zcS hp2 (by omega) (n:=many+1) (by omega) (by omega);obtain ⟨x1,y1,z1,rfl⟩:=hp1.sh;obtain ⟨x2,y2,z2,rfl⟩:=hp2.sh;obtain ⟨x3,y3,z3,rfl⟩:=hp3.sh;obtain ⟨K,hK,hmul⟩:∃K:Int,(0<=K/\K<=many/\(0 < K->0 < c))/\fMul (.d (.int k)) (.d (.int (if 0 < c then 1 else 0)))=some (.d (.int K)):=by
  by_cases z:0 < c
  .rw[if_pos z];exact ⟨k * 1,by omega,zhU (by omega) (by omega)⟩
  .rw[if_neg z];exact ⟨k * 0,by omega,zhU (by omega) (by omega)⟩
 obtain ⟨hK0,hK1,hK2⟩:=hK;obtain ⟨ρ',e4,rs,p4,v6,v7,v8,v9,rfl,hn,hr,hp4⟩:=zcK (G:=gtN 6) (S:=zcu) (items:=rngO 0 K.toNat) (ρ:=[.l [.d (.int x3),.d (.int y3),.d (.int z3)],.d (.int most),.d (.int many),.d (.int c),zal hs,.l [],.z,.z,.z,.z])
  (fun i ρ=>∃(rs:List Road) (p4 v6 v7 v8 v9:O),ρ=[p4,.d (.int most),.d (.int many),.d (.int c),zal hs,zbM rs,v6,v7,v8,v9]/\rs.length<=2 * i/\RdOk c hs rs/\PuOk p4 (m+168+28 * i))
  ⟨[],_,_,_,_,_,rfl,by simp,⟨by simp,by simp[Pot],by simp⟩,hp3.mono (by omega)⟩
  (fun i x ρ hx hx__=>by
   obtain ⟨rs,p4,v6,v7,v8,v9,e,hn,hr,hp4⟩:=hx__;obtain ⟨hi,rfl⟩:=zdR hx;subst e;obtain ⟨rs',p',v7',v8',v9',e5,hn',hr',hp'⟩:=zmO (w1:=.d (.int most)) (w2:=.d (.int many)) (w6:=.d (.int (0+i))) (w7:=v7) (w8:=v8) (w9:=v9) hp4 (by omega) (c:=c) (by omega) (by omega) hl hb hr (by omega);exact ⟨[p4,.d (.int most),.d (.int many),.d (.int c),zal hs,zbM rs,.d (.int (0+i)),v7,v8,v9],_,by simp,e5,rs',p',_,v7',v8',v9',rfl,by omega,hr',hp'.mono (by omega)⟩)
 rw[zcr] at hn hp4;refine key ⟨c,rs,p4, ?_,⟨l1,by omega,by omega,hr.rd⟩,⟨hgt hs,zoG hb,hr.pot,hr.slk⟩,hp4.mono (by omega)⟩;unfold zbs zdU;have hk:okR K=true:=zeA (by omega) (by omega);obtain ⟨x4,y4,z4,rfl⟩:=hp4.sh;unfold netO zbM zal at *;simp (disch:=omega) [e1,e2,e3,-zoM,hmul,zic hk,e4,zbR];rfl
theorem Slk.taut {rs:List Road}:Slk rs->Taut rs:=fun ⟨_,_,P,_⟩=>P.taut
theorem znL {p:O} {m:Int} {most many:Int} (hp:PuOk p m) (hm:m<=562949953421312) (a0:0<=most) (a1:most<=19) (b0:0<=many) (b1:many<=30) :
  ∃(n:Int) (rs:List Road) (p':O),zbs [p,.d (.int most),.d (.int many)]=.ok (netO n rs) [p']/\NetB n 300000000 most.toNat (2 * many.toNat) rs/\Taut rs/\PuOk p' (m+2000):=by
 obtain ⟨n,rs,p',h1,h2,h3,h4⟩:=zph hp hm a0 a1 b0 b1;exact ⟨n,rs,p',h1,h2,h3.taut,h4⟩
structure Net (n:Int) (rs:List Road):Prop where
 ok:zaL n rs
 pos:0 < n
 taut:Taut rs
@[simp] theorem zs8 (ds:List PyData):zjd (.d (.list ds))=some (.l (ds.map O.d)):=by
 unfold zjd;rw[show els (.d (.list ds))=some (_,ds.map O.d) from rfl];dsimp only;rw[ze2]
@[simp] theorem zsT (ds:List PyData):zjd (.l (ds.map O.d))=some (.l (ds.map O.d)):=by
 unfold zjd;rw[show els (.l (ds.map O.d))=some (_,ds.map O.d) from rfl];dsimp only;rw[ze2]
theorem zgo (n k:Int):zbI [.d (.int n),.d (.int k)]=.ok (.d (.bool (decide (0<=k/\k < n)))) []:=by
 unfold zbI zdr
 by_cases h:0<=k<;>simp (disch:=omega) [h]
theorem zko {n:Int} {r:Road} (ok:znP n r):zc0 [.d (.int n),.d (zar r)]=.ok (.d (.bool true)) []:=by
 obtain ⟨⟨h1,h2⟩,⟨h3,h4⟩,h5,h6⟩:=ok;unfold zc0 zdS zar;simp (disch:=omega) [zgo,h1,h2,h3,h4,h5,h6]
@[simp] theorem zub (b:Bool):trV (.d (.bool b))=some b:=rfl
theorem zdw:∀{ds:List PyData} {k:Nat} {i:Nat} {x:O},(zdZ k ds)[i]? = some x->∃d,ds[i]? = some d/\x=.d (.tuple [.int ((k+i:Nat):Int),d])
 | [],_,_,_,h=>by simp[zdZ] at h
 | d::ds,k,0,x,h=>by
  simp[zdZ] at h;exact ⟨d,rfl,by rw[<-h];simp⟩
 | d::ds,k,i+1,x,h=>by
  rw[zdZ,List.getElem?_cons_succ] at h;obtain ⟨y,hy,e⟩:=zdw h;exact ⟨y,by simpa using hy,by rw[e,Nat.add_right_comm];rfl⟩
theorem zc6 {n:Int} {rs:List Road} (ok:zaL n rs):za7 [.d (netD n rs)]=.ok (.d .none) []:=by
 have h0:=ok.n0;have h1:=ok.n1;have h2:¬(60:Int) < rs.length:=by have:=ok.len;omega
 obtain ⟨ρ',e,z3,z4,rfl⟩:=zcK (G:=gtT (zau (gtN 3) (zau (gtN 4) zbZ))) (S:=zcC) (items:=zdZ 0 (rs.map zar)) (ρ:=[.d (netD n rs),.d (.int n),.d (zbr rs),.z,.z])
  (fun i ρ=>∃z3 z4:O,ρ=[.d (netD n rs),.d (.int n),.d (zbr rs),z3,z4]) ⟨_,_,rfl⟩
  (fun i x ρ hx hx__=>by
   obtain ⟨z3,z4,e⟩:=hx__;subst e;obtain ⟨d,hd,rfl⟩:=zdw hx;rw[List.getElem?_map] at hd;obtain ⟨r,hr,rfl⟩:=Option.map_eq_some_iff.mp hd;have hr:=zko (ok.rd r (List.mem_of_getElem? hr));refine ⟨_,_,by exact rfl, ?_,.d (.int i),.d (zar r),rfl⟩;unfold zcC;simp (disch:=omega) [hr])
 unfold za7 zdl;unfold netD zbr at *;simp (disch:=omega) [h0,h1,h2,e]
theorem zdW {n k:Int} {rs:List Road} (h0:0<=k) (h1:k < n):zbi [.d (netD n rs),.d (.int k)]=.ok (.d .none) []:=by
 unfold zbi zcA netD;simp (disch:=omega) [zgo,h0,h1,ixN]
theorem zcg {n k l:Int} {rs:List Road} (ok:zaL n rs) (h0:0<=k/\k < n) (h1:0<=l/\l < n):zaS [.d (netD n rs),.d (.int k),.d (.int l)]=.ok (.d .none) []:=by
 unfold zaS zb7;simp (disch:=omega) [zc6 ok,zdW h0.1 h0.2,zdW h1.1 h1.2]
def cO:Option Int->O
 | none=>.d .none
 | some x=>.d (.int x)
def rowO (r:List (Option Int)):O:=.l (r.map cO)
def tabO (t:Tab):O:=.l (t.map rowO)
theorem zez {n:Nat} {i:Int} (h:0<=i/\i < n):ixN n i=some i.toNat:=by unfold ixN;rw[if_pos h.1,if_pos h.2]
theorem ziQ {ρ:Rho} {k a b:Nat} {t:Tab} {n:Nat} {i j:Int} (sh:Shape n t) (hk:ρ[k]? = some (tabO t)) (ha:ρ[a]? = some (.d (.int i))) (hb:ρ[b]? = some (.d (.int j))) (hi:0<=i/\i < n) (hj:0<=j/\j < n) :
  eIx (eIx (zab k) (zab a)) (zab b) ρ=.ok (.own (cO (cell t i.toNat j.toNat))) ρ true:=by
 obtain ⟨r,e1,e2,hm⟩:=sh.at (i:=i.toNat) (j:=j.toNat) (by omega) (by omega);have l1:=sh.len;have l2:=sh.row r hm;have f1:gIx ρ (.at k []) i=some (.at k [i.toNat]):=by
  rw[zd2,hk];unfold tabO;simp[els,zez (n:=t.length) (i:=i) (by omega),e1,rowO,ze9]
 have vv:vw ρ (.at k [i.toNat])=some (rowO r):=by
  unfold vw;dsimp only;rw[hk];simp[tabO,sub,e1]
 have f2:gIx ρ (.at k [i.toNat]) j=some (.own (cO (cell t i.toNat j.toNat))):=by
  unfold gIx
  have:vn ρ (.at k [i.toNat])=some (rowO r):=by
   unfold vn;rw[vv];rfl
  rw[this];simp[rowO,els,zez (n:=r.length) (i:=j) (by omega),e2]
  cases cell t i.toNat j.toNat<;>rfl
 have f3:pok ρ true (.at k [i.toNat])=true:=by simp[pok,vv]
 simp[hk,ha,hb,f1,f2,f3,tabO,-zd2]
theorem zp1 {T:TF} {S U:SF} {ρ ρ':Rho} {q:Bool} (h:T ρ=.ok true ρ' q):sIf T S U ρ=S ρ':=by simp[h]
section
variable {w0 w1 w2 z4 z5 z6 z7 z8 z9:O} {t:Tab} {n:Nat}
end
theorem zgP {α β:Type} (f:β->α->β) (b:β) {l:List α} {i:Nat} {x:α} (h:l[i]? = some x):(l.take (i+1)).foldl f b=f ((l.take i).foldl f b) x:=by
 rw[List.take_succ,h,List.foldl_append];rfl
section
variable {w0 w1 w2 z4 z5 z6 z7 z8 z9:O} {n:Nat}
end
theorem zdc (l:List O):l.filter (fun _=>true)=l:=List.filter_eq_self.mpr (by simp)
def fnO (f:Int->O) (n:Nat):O:=.l ((List.range n).map fun v:Nat=>f v)
def hO (h:Int->Int) (v:Int):O:=.d (.int (h v))
def eO (e:Int->Option Int) (v:Int):O:=cO (e v)
theorem cO_d (o:Option Int):∃x,cO o=.d x:=by cases o<;>exact ⟨_,rfl⟩
theorem zpC (h:Int->Int) (v x:Int):up1 (hO h) v (.d (.int x))=hO (up1 h v x):=by
 funext y;by_cases z:y=v<;>simp[up1,hO,z]
theorem zsx (e:Int->Option Int) (v:Int) (x:Option Int):up1 (eO e) v (cO x)=eO (up1 e v x):=by
 funext y;by_cases z:y=v<;>simp[up1,eO,z]
theorem zn2 {ρ:Rho} {k a:Nat} {f:Int->O} {n:Nat} {i:Int} {x:PyData} (hk:ρ[k]? = some (fnO f n)) (ha:ρ[a]? = some (.d (.int i))) (hi:0<=i/\i < n) (hf:f i=.d x) :
  eIx (zab k) (zab a) ρ=.ok (.own (.d x)) ρ true:=by
 have f1:gIx ρ (.at k []) i=some (.own (.d x)):=by
  rw[zd2,hk];unfold fnO
  have:((i.toNat:Nat):Int)=i:=by omega
  have hl:i.toNat < n:=by omega
  simp[els,zez (n:=n) (i:=i) hi,hl,this,hf,ze9]
 simp[hk,ha,f1,fnO,-zd2]
theorem zoS {ρ:Rho} {k b:Nat} {f:Int->O} {n:Nat} {i:Int} {A:EF} {o:O} {r0:Rv} {q:Bool} (hA:A ρ=.ok r0 ρ q) (hc:coe ρ r0=some (o,ρ)) (hk:ρ[k]? = some (fnO f n)) (hb:ρ[b]? = some (.d (.int i))) (hi:0<=i/\i < n) :
  sSub coe A (zab k) (zab b) ρ=.nx (ρ.set k (fnO (up1 f i o) n)):=by
 have f4:L2.zfa ρ (.at k []) (fun os=>(ixN os.length i).map fun z=>os.set z o)=some (ρ.set k (fnO (up1 f i o) n)):=by
  rw[zl5,hk];unfold fnO;simp only[List.length_map,List.length_range,zez hi,Option.map_some]
  congr 3
  apply List.ext_getElem?;intro j
  by_cases e:i.toNat=j
  .subst e
   have:((i.toNat:Nat):Int)=i:=by omega
   have hl:i.toNat < n:=by omega
   simp[hl,this,up1]
  .rw[List.getElem?_set_ne e];rw[List.getElem?_map,List.getElem?_map]
   by_cases hj:j < n
   .simp[hj,up1];intro z;omega
   .simp[hj]
 simp[hA,hc,hk,hb,f4,fnO,-zl5]
theorem zk7 {w0 z3 z4:O} {n:Nat} {h:Int->Int} {e:Int->Option Int} {l:Option Int} {k:Int} {r:Road} (h1:0<=r.1/\r.1 < n) (h2:0<=r.2.1/\r.2.1 < n) :
  zbP [w0,fnO (hO h) n,fnO (eO e) n,cO l,.d (.int k),.d (.int r.1),.d (.int r.2.1),.d (.int r.2.2)]=if h r.1+r.2.2 < h r.2.1 then .nx [w0,fnO (hO (up1 h r.2.1 (h r.1+r.2.2))) n,fnO (eO (up1 e r.2.1 (some k))) n,cO (some r.2.1),.d (.int k),.d (.int r.1),.d (.int r.2.1),.d (.int r.2.2)] else .nx [w0,fnO (hO h) n,fnO (eO e) n,cO l,.d (.int k),.d (.int r.1),.d (.int r.2.1),.d (.int r.2.2)]:=by
 have r1:=zn2 (ρ:=[w0,fnO (hO h) n,fnO (eO e) n,cO l,.d (.int k),.d (.int r.1),.d (.int r.2.1),.d (.int r.2.2)]) (k:=1) (a:=5) (f:=hO h) (n:=n) (i:=r.1) rfl rfl h1 rfl;have r2:=zn2 (ρ:=[w0,fnO (hO h) n,fnO (eO e) n,cO l,.d (.int k),.d (.int r.1),.d (.int r.2.1),.d (.int r.2.2)]) (k:=1) (a:=6) (f:=hO h) (n:=n) (i:=r.2.1) rfl rfl h2 rfl;unfold zbP
 by_cases c:h r.1+r.2.2 < h r.2.1
 .rw[if_pos c,zp1 (q:=true) (ρ':=[w0,fnO (hO h) n,fnO (eO e) n,cO l,.d (.int k),.d (.int r.1),.d (.int r.2.1),.d (.int r.2.2)]) (by simp[r1,r2,-zcV,c])];have w1:=zoS (ρ:=[w0,fnO (hO h) n,fnO (eO e) n,cO l,.d (.int k),.d (.int r.1),.d (.int r.2.1),.d (.int r.2.2)]) (k:=1) (b:=6) (f:=hO h) (n:=n) (i:=r.2.1) (A:=e2 (eIx (zab 1) (zab 5)) (zab 7) fAdd) (o:=.d (.int (h r.1+r.2.2))) (r0:=.own (.d (.int (h r.1+r.2.2)))) (q:=true) (by simp[r1,-zcV]) rfl rfl rfl h2;rw[zpC] at w1;rw[zdi w1];have w2:=zoS (ρ:=[w0,fnO (hO (up1 h r.2.1 (h r.1+r.2.2))) n,fnO (eO e) n,cO l,.d (.int k),.d (.int r.1),.d (.int r.2.1),.d (.int r.2.2)]) (k:=2) (b:=6) (f:=eO e) (n:=n) (i:=r.2.1) (A:=zab 4) (o:=cO (some k)) (r0:=.at 4 []) (q:=true) rfl rfl rfl rfl h2;rw[zsx] at w2;have w2':sSub coe (zab 4) (zab 2) (zab 6) ([w0,fnO (hO h) n,fnO (eO e) n,cO l,.d (.int k),.d (.int r.1),.d (.int r.2.1),.d (.int r.2.2)].set 1 (fnO (hO (up1 h r.2.1 (h r.1+r.2.2))) n))=_:=w2;rw[zdi w2'];exact (zaE rfl rfl rfl)
 .rw[if_neg c];simp[r1,r2,-zcV,c]
theorem zdv:∀(ds:List PyData) (k:Nat),(zdZ k ds).length=ds.length
 | [],_=>rfl
 | d::ds,k=>by rw[zdZ,List.length_cons,zdv ds,List.length_cons]
theorem zhx {n:Int} {rs:List Road} (ok:zaL n rs) (b:Bf) :
  zce [.d (zbr rs),fnO (hO b.h) n.toNat,fnO (eO b.e) n.toNat]=.ok (cO (zbz rs b).l) [fnO (hO (zbz rs b).h) n.toNat,fnO (eO (zbz rs b).e) n.toNat]:=by
 have n0:=ok.n0;obtain ⟨ρ',e,z4,z5,z6,z7,rfl⟩:=zcK (G:=gtT (zau (gtN 4) (zau (gtT (zau (gtN 5) (zau (gtN 6) (zau (gtN 7) zbZ)))) zbZ))) (S:=zbP) (items:=zdZ 0 (rs.map zar)) (ρ:=[.d (zbr rs),fnO (hO b.h) n.toNat,fnO (eO b.e) n.toNat,.d .none,.z,.z,.z,.z])
  (fun i ρ=>∃z4 z5 z6 z7,ρ=[.d (zbr rs),fnO (hO (bfTo rs b i).h) n.toNat,fnO (eO (bfTo rs b i).e) n.toNat,cO (bfTo rs b i).l,z4,z5,z6,z7]) ⟨_,_,_,_,rfl⟩
  (fun i x ρ hx hx__=>by
   obtain ⟨z4,z5,z6,z7,e⟩:=hx__;subst e;obtain ⟨d,hd,rfl⟩:=zdw hx;rw[List.getElem?_map] at hd;obtain ⟨r,hr,rfl⟩:=Option.map_eq_some_iff.mp hd;obtain ⟨⟨a1,a2⟩,⟨b1,b2⟩,_⟩:=ok.rd r (List.mem_of_getElem? hr);have st:=zk7 (w0:=.d (zbr rs)) (z3:=.z) (z4:=.z) (n:=n.toNat) (h:=(bfTo rs b i).h) (e:=(bfTo rs b i).e) (l:=(bfTo rs b i).l) (k:=i) (r:=r) (by omega) (by omega);have eb:bfTo rs b (i+1)=ziL rs (bfTo rs b i) i:=zbk _ _ _;rw[eb];unfold ziL;rw[hr];dsimp only;refine ⟨[.d (zbr rs),fnO (hO (bfTo rs b i).h) n.toNat,fnO (eO (bfTo rs b i).e) n.toNat,cO (bfTo rs b i).l,.d (.int i),.d (.int r.1),.d (.int r.2.1),.d (.int r.2.2)], ?_⟩;rw[st];split
   .exact ⟨_,by simp[zar],rfl,_,_,_,_,rfl⟩
   .exact ⟨_,by simp[zar],rfl,_,_,_,_,rfl⟩)
 rw[zdv,List.length_map] at e;obtain ⟨x,hx⟩:=cO_d (zbz rs b).l;rw[show bfTo rs b rs.length=zbz rs b from rfl,hx] at e;rw[hx];unfold zce zcP;unfold zbr fnO at *;simp[e]
theorem zjS (x:PyData):∀k:Nat,(List.map O.d (List.replicate k [x]).flatten)=List.replicate k (O.d x)
 | 0=>rfl
 | k+1=>by rw[List.replicate_succ,List.flatten_cons,List.map_append,zjS x k];rfl
theorem zeO {x:PyData} {c:Int} (c0:0<=c) (c1:c<=1000):fMul (.l [.d x]) (.d (.int c))=some (.l (List.replicate c.toNat (.d x))):=by
 have z:(1:Nat) * c.toNat<=sizeLine:=zbR (by omega);unfold fMul;dsimp only[els,lds,Option.map];rw[if_pos ⟨by omega,by omega,z⟩,zjS]
theorem zfF {n:Int} {rs:List Road} (ok:zaL n rs) {w0 w1 w2:O}:∀(items:List O) (b:Bf) (z6 z7:O),(items.length=0->z6=cO b.l)->
  ∃z7',forF (gtN 7) zc3 items [w0,w1,w2,.d (zbr rs),fnO (hO b.h) n.toNat,fnO (eO b.e) n.toNat,z6,z7]=.nx [w0,w1,w2,.d (zbr rs),fnO (hO (zc7 rs items.length b).h) n.toNat,fnO (eO (zc7 rs items.length b).e) n.toNat,cO (zc7 rs items.length b).l,z7']
 | [],b,z6,z7,h=>⟨z7,by rw[h rfl];rfl⟩
 | x::xs,b,z6,z7,_=>by
  have on:=zhx ok b;have st:zc3 [w0,w1,w2,.d (zbr rs),fnO (hO b.h) n.toNat,fnO (eO b.e) n.toNat,z6,x]=if (zbz rs b).l=none then .br [w0,w1,w2,.d (zbr rs),fnO (hO (zbz rs b).h) n.toNat,fnO (eO (zbz rs b).e) n.toNat,cO (zbz rs b).l,x] else .nx [w0,w1,w2,.d (zbr rs),fnO (hO (zbz rs b).h) n.toNat,fnO (eO (zbz rs b).e) n.toNat,cO (zbz rs b).l,x]:=by
   unfold zc3
   cases e:(zbz rs b).l with
   | none=>
    rw[e] at on;unfold fnO zbr cO at *;exact (zaq (zaE (zaA (zad rfl (zad rfl (zad rfl rfl rfl) rfl) rfl) rfl on rfl rfl) rfl rfl) (if_t (za4 (zax rfl rfl rfl rfl rfl rfl) rfl) rfl))
   | some v=>
    rw[e] at on;unfold fnO zbr cO at *;exact (zaq (zaE (zaA (zad rfl (zad rfl (zad rfl rfl rfl) rfl) rfl) rfl on rfl rfl) rfl rfl) (if_f (za4 (zax rfl rfl rfl rfl rfl rfl) rfl) rfl))
  have g:gtN 7 x [w0,w1,w2,.d (zbr rs),fnO (hO b.h) n.toNat,fnO (eO b.e) n.toNat,z6,z7]=some [w0,w1,w2,.d (zbr rs),fnO (hO b.h) n.toNat,fnO (eO b.e) n.toNat,z6,x]:=by simp
  by_cases e:(zbz rs b).l=none
  .rw[if_pos e] at st;refine ⟨x, ?_⟩;rw[forF,g];dsimp only;rw[st];dsimp only;rw[List.length_cons,zc7,if_pos e]
  .rw[if_neg e] at st;obtain ⟨z7',ih⟩:=zfF ok xs (zbz rs b) (cO (zbz rs b).l) x fun _=>rfl
   refine ⟨z7', ?_⟩;rw[forF,g];dsimp only;rw[st];dsimp only;rw[List.length_cons,zc7,if_neg e];exact ih
def hsD (n:Nat) (s:Int->Int):PyData:=.list ((List.range n).map fun v:Nat=>.int (s v))
theorem znc {n:Int} {rs:List Road} (ok:zaL n rs) (s:Int->Int) :
  zbN [.d (netD n rs),.d (hsD n.toNat s)]=.ok (.t [fnO (hO (zaB n.toNat rs s).h) n.toNat,fnO (eO (zaB n.toNat rs s).e) n.toNat,cO (zaB n.toNat rs s).l]) []:=by
 have n0:=ok.n0;have n1:=ok.n1;have hr:okR n=true:=zeA (by omega) (by omega);obtain ⟨z7,e⟩:=zfF ok (w0:=.d (netD n rs)) (w1:=.d (hsD n.toNat s)) (w2:=.d (.int n)) (rngO 0 n.toNat) ⟨s,fun _=>none,none⟩ (.d .none) .z (fun _=>rfl);rw[zcr,show zc7 rs n.toNat ⟨s,fun _=>none,none⟩=zaB n.toNat rs s from rfl] at e;have b1:fnO (hO s) n.toNat=.l (((List.range n.toNat).map fun v:Nat=>PyData.int (s v)).map O.d):=by
  unfold fnO;rw[List.map_map];rfl
 have b2:fnO (eO fun _=>none) n.toNat=.l (List.replicate n.toNat (.d .none)):=by
  unfold fnO eO cO;rw[List.map_const'];simp
 dsimp only at e;rw[b1,b2] at e;obtain ⟨x,hx⟩:=cO_d (zaB n.toNat rs s).l;rw[hx] at e ⊢;unfold zbN zdJ;unfold fnO netD zbr hsD at *;simp (disch:=omega) [e,zic hr,zeO,zbR,-List.map_map];rfl
@[simp] theorem ztJ (k:Nat) (x:PyData):fz (.l (List.replicate k (.d x)))=some (.list (List.replicate k x)):=by
 have:=zfS (List.replicate k x)
 rwa [List.map_replicate] at this
theorem zfj (n:Nat) (a:Int):fnO (hO fun _=>a) n=.l (List.replicate n (.d (.int a))):=by
 unfold fnO hO;rw[List.map_const'];simp
theorem zty (n:Nat) (h:Int->Int):fz (fnO (hO h) n)=some (hsD n h):=by
 unfold fnO hO hsD
 have:=zfS ((List.range n).map fun v:Nat=>PyData.int (h v))
 rw[List.map_map] at this;exact this
theorem zh8 {n:Int} {rs:List Road} (ok:zaL n rs) (s:Int->Int) :
  zbN [.d (netD n rs),fnO (hO s) n.toNat]=.ok (.t [fnO (hO (zaB n.toNat rs s).h) n.toNat,fnO (eO (zaB n.toNat rs s).e) n.toNat,cO (zaB n.toNat rs s).l]) []:=by
 have n0:=ok.n0;have n1:=ok.n1;have hr:okR n=true:=zeA (by omega) (by omega);obtain ⟨z7,e⟩:=zfF ok (w0:=.d (netD n rs)) (w1:=.l (((List.range n.toNat).map fun v:Nat=>PyData.int (s v)).map O.d)) (w2:=.d (.int n)) (rngO 0 n.toNat) ⟨s,fun _=>none,none⟩ (.d .none) .z (fun _=>rfl);rw[zcr,show zc7 rs n.toNat ⟨s,fun _=>none,none⟩=zaB n.toNat rs s from rfl] at e;have b1:fnO (hO s) n.toNat=.l (((List.range n.toNat).map fun v:Nat=>PyData.int (s v)).map O.d):=by
  unfold fnO;rw[List.map_map];rfl
 have b2:fnO (eO fun _=>none) n.toNat=.l (List.replicate n.toNat (.d .none)):=by
  unfold fnO eO cO;rw[List.map_const'];simp
 dsimp only at e;rw[b1,b2] at e;rw[b1];obtain ⟨x,hx⟩:=cO_d (zaB n.toNat rs s).l;rw[hx] at e ⊢;unfold zbN zdJ;unfold fnO netD zbr at *;simp (disch:=omega) [e,zic hr,zeO,zbR,-List.map_map];rfl
theorem zdp {n:Int} {rs:List Road} (N:zaL n rs) (T:Taut rs):zbf [.d (netD n rs)]=.ok (.d .none) []:=by
 have n0:=N.n0;have n1:=N.n1;have lo:=zh8 N (fun _=>0);rw[(zcQ N T _).1,zfj] at lo;unfold zbf zcR;unfold fnO netD cO at *;exact (znk rfl (zaq (zaE (zaA (zad rfl (zad (zax (zaK (zad rfl rfl rfl) rfl (Nat.le_of_ble_eq_true rfl) rfl) (zbb rfl (zaN rfl rfl rfl) rfl rfl) rfl rfl rfl (zeO n0 (by omega))) rfl rfl) rfl) rfl lo rfl rfl) rfl rfl) (if_f (za4 (zax rfl rfl rfl rfl rfl rfl) rfl) rfl)) rfl)
theorem zfv {n one:Int} {rs:List Road} (N:zaL n rs) (h1:0<=one/\one < n) :
  zbJ [.d (netD n rs),.d (.int one)]=.ok (.t [fnO (hO (zaB n.toNat rs (farS one 40000000000)).h) n.toNat,fnO (eO (zaB n.toNat rs (farS one 40000000000)).e) n.toNat]) []:=by
 have n0:=N.n0;have n1:=N.n1;have lo:=znc N (farS one 40000000000);obtain ⟨x,hx⟩:=cO_d (zaB n.toNat rs (farS one 40000000000)).l;rw[hx] at lo;unfold zbJ zcN;have b1:(sAsg coe (e2 (zaQ coes .l (zae (eC (.int (40000000000))) aNil)) (eIx (zab 0) (eC (.int 0))) fMul) (gtN 2)) [.d (netD n rs),.d (.int one),.z,.z,.z,.z]=.nx [.d (netD n rs),.d (.int one),fnO (hO fun _=>40000000000) n.toNat,.z,.z,.z]:=by
  rw[zfj];unfold netD;exact (zaE (zax (zaK (zad rfl rfl rfl) rfl (Nat.le_of_ble_eq_true rfl) rfl) (zbb rfl (zaN rfl rfl rfl) rfl rfl) rfl rfl rfl (zeO n0 (by omega))) rfl rfl)
 have b2:=zoS (ρ:=[.d (netD n rs),.d (.int one),fnO (hO fun _=>40000000000) n.toNat,.z,.z,.z]) (k:=2) (b:=1) (i:=one) (A:=eC (.int 0)) (o:=.d (.int 0)) (r0:=.own (.d (.int 0))) (q:=true) rfl rfl rfl rfl (by omega);rw[zpC] at b2;have b2':sSub coe (eC (.int 0)) (zab 2) (zab 1) [.d (netD n rs),.d (.int one),fnO (hO fun _=>40000000000) n.toNat,.z,.z,.z]=.nx [.d (netD n rs),.d (.int one),fnO (hO (farS one 40000000000)) n.toNat,.z,.z,.z]:=b2;simp only[zm9,List.length_cons,List.length_nil,List.cons_append,List.nil_append,List.replicate];rw[zdi b1,zdi b2'];have fz':=zty n.toNat (farS one 40000000000);generalize hsD n.toNat (farS one 40000000000)=W at *;generalize (zaB n.toNat rs (farS one 40000000000))=b at *;unfold fnO at *;simp (disch:=omega) [lo,zbR,fz'];rfl
theorem zdY (R:List Int):fz (zal R)=some (.list (R.map .int)):=by
 unfold zal
 have:=zfS (R.map PyData.int)
 rw[List.map_map] at this;exact this
theorem zjt (R:List Int):SeqAt.shaped (.list (R.map PyData.int))=true:=by
 have h:∀R:List Int,PyData.canLayAll0 (R.map PyData.int)=true/\PyData.depthAll (R.map PyData.int)<=1:=by
  intro R
  induction R with
  | nil=>simp[PyData.canLayAll0,PyData.depthAll]
  | cons x xs ih=>simp[PyData.canLayAll0,PyData.depthAll,PyData.canLay0,PyData.depth,ih]
 simp[SeqAt.shaped,PyData.canLay0,PyData.depth,(h R).1]
 have:=(h R).2
 omega
theorem zoC (R:List Int) (v:Int):((R.map PyData.int).any fun y=>PyData.eqv y (.int v))=decide (v∈R):=by
 induction R with
 | nil=>simp
 | cons x xs ih=>
  rw[List.map_cons,List.any_cons,ih]
  by_cases h:x=v
  .subst h;simp[PyData.eqv]
  .have h':¬v=x:=fun z=>h z.symm
   simp[PyData.eqv,h,h']
theorem zgg (b:Bool) (R:List Int) (v:Int):fIn b (.d (.int v)) (zal R)=some (.d (.bool (if b then !decide (v∈R) else decide (v∈R)))):=by
 unfold fIn;rw[zdY,fz_d];dsimp only;rw[zjt,zoC];exact rfl
def zcm (p:Int) (R:List Int) (r:Road):List Int:=if r.1=p/\r.2.1∉R then R++[r.2.1] else R
theorem zg3 (p:Int) (R:List Int) (r:Road):∃X,zcm p R r=R++X:=by
 unfold zcm;split
 .exact ⟨_,rfl⟩
 .exact ⟨[],by simp⟩
structure Rc1 (n:Int) (rs:List Road) (one:Int) (R:List Int):Prop where
 nd:R.Nodup
 rg:∀v∈R,0<=v/\v < n
 wk:∀v∈R,∃L,Wk rs one v L
theorem Rc1.len {n one:Int} {rs:List Road} {R:List Int} (h:Rc1 n rs one R):R.length<=n.toNat:=
 ziz h.nd fun x hx=>by have:=h.rg x hx;omega
theorem Rc1.step {n one p:Int} {rs:List Road} {R:List Int} (ok:zaL n rs) (h:Rc1 n rs one R) (hp:p∈R) {r:Road} (hr:r∈rs):Rc1 n rs one (zcm p R r):=by
 unfold zcm;split
 .rename_i c;refine ⟨?_,fun v hv=>?_,fun v hv=>?_⟩
  .rw[List.nodup_append];exact ⟨h.nd,by simp,fun a ha b hb=>by
    obtain rfl:=List.mem_singleton.mp hb;intro e;exact c.2 (e ▸ ha)⟩
  .rcases List.mem_append.mp hv with hv | hv
   .exact h.rg v hv
   .obtain rfl:=List.mem_singleton.mp hv;exact (ok.rd r hr).2.1
  .rcases List.mem_append.mp hv with hv | hv
   .exact h.wk v hv
   .obtain rfl:=List.mem_singleton.mp hv;obtain ⟨L,w⟩:=h.wk p hp;have w2:Wk rs r.1 r.2.1 (r.2.2+0):=.cons hr (.nil _);rw[c.1] at w2;exact ⟨_,w.trans w2⟩
 .exact h
theorem zkk {w0 w1 z6:O} {R:List Int} {a p:Int} {r:Road} (ha:0<=a/\a < R.length) (hp:R[a.toNat]? = some p) (hl:R.length<=1000) :
  zbo [w0,w1,zal R,.d (.int a),.d (.int r.1),.d (.int r.2.1),z6]=.nx [w0,w1,zal (zcm p R r),.d (.int a),.d (.int r.1),.d (.int r.2.1),z6]:=by
 have rd:eIx (zab 2) (zab 3) [w0,w1,zal R,.d (.int a),.d (.int r.1),.d (.int r.2.1),z6]=.ok (.own (.d (.int p))) [w0,w1,zal R,.d (.int a),.d (.int r.1),.d (.int r.2.1),z6] true:=by
  unfold zal;simp (disch:=omega) [ixN,ha.1,ha.2,hp,-getElem?_pos]
 have fi:=zgg true R r.2.1;unfold zbo zcm
 by_cases c1:r.1=p
 .have c1':(r.1==p)=true:=by simp[c1]
  by_cases c2:r.2.1∈R
  .rw[if_neg (by simp[c2])];unfold zal at *;simp (disch:=omega) [rd,-zcV,c1',fi,c2,-beq_iff_eq]
  .rw[if_pos ⟨c1,c2⟩];unfold zal at *;simp (disch:=omega) [rd,-zcV,c1',fi,c2,zfb,-beq_iff_eq]
 .rw[if_neg (by simp[c1])];unfold zal at *;simp (disch:=omega) [rd,-zcV,c1]
theorem zjK (p:Int):∀(rs:List Road) (R:List Int),∃X,rs.foldl (zcm p) R=R++X
 | [],R=>⟨[],by simp⟩
 | r::rs,R=>by
  obtain ⟨X,hX⟩:=zg3 p R r;obtain ⟨Y,hY⟩:=zjK p rs (zcm p R r);exact ⟨X++Y,by rw[List.foldl_cons,hY,hX,List.append_assoc]⟩
theorem zlM {n one p:Int} {rs:List Road} (ok:zaL n rs):∀(l:List Road) (R:List Int),(∀r∈l,r∈rs)->Rc1 n rs one R->p∈R->Rc1 n rs one (l.foldl (zcm p) R)
 | [],R,_,h,_=>h
 | r::l,R,hl,h,hp=>by
  rw[List.foldl_cons];refine zlM ok l _ (fun x hx=>hl x (List.mem_cons_of_mem _ hx)) (h.step ok hp (hl r List.mem_cons_self)) ?_;obtain ⟨X,hX⟩:=zg3 p R r;rw[hX];exact List.mem_append_left _ hp
theorem znu {p:Int}:∀(l:List Road) (R:List Int),∀r∈l,r.1=p->r.2.1∈l.foldl (zcm p) R
 | r::l,R,x,hx,e=>by
  rw[List.foldl_cons];rcases List.mem_cons.mp hx with rfl | hx
  .obtain ⟨Y,hY⟩:=zjK p l (zcm p R x);rw[hY];refine List.mem_append_left _ ?_;unfold zcm
   by_cases c:x.2.1∈R
   .rw[if_neg (by simp[c])];exact c
   .rw[if_pos ⟨e,c⟩];simp
  .exact znu l _ x hx e
theorem zi3 {n one:Int} {rs:List Road} (ok:zaL n rs) {w1 z4 z5 z6:O} {R:List Int} {a p:Int} (h:Rc1 n rs one R) (ha:0<=a/\a < R.length) (hp:R[a.toNat]? = some p) :
  ∃z4' z5' z6',zbq [.d (netD n rs),w1,zal R,.d (.int a),z4,z5,z6]=.nx [.d (netD n rs),w1,zal (rs.foldl (zcm p) R),.d (.int (a+1)),z4',z5',z6']:=by
 have hpm:=List.mem_of_getElem? hp;have n1:=ok.n1;obtain ⟨ρ',e,z4',z5',z6',rfl⟩:=zcK (G:=gtT (zau (gtN 4) (zau (gtN 5) (zau (gtN 6) zbZ)))) (S:=zbo) (items:=(rs.map zar).map O.d) (ρ:=[.d (netD n rs),w1,zal R,.d (.int a),z4,z5,z6])
  (fun i ρ=>∃z4' z5' z6',ρ=[.d (netD n rs),w1,zal ((rs.take i).foldl (zcm p) R),.d (.int a),z4',z5',z6']) ⟨_,_,_,rfl⟩
  (fun i x ρ hx hx__=>by
   obtain ⟨z4',z5',z6',e⟩:=hx__;subst e;rw[List.map_map,List.getElem?_map] at hx;obtain ⟨r,hr,rfl⟩:=Option.map_eq_some_iff.mp hx;obtain ⟨X,hX⟩:=zjK p (rs.take i) R;have hI:=zlM (p:=p) ok (rs.take i) R (fun r hr=>List.mem_of_mem_take hr) h hpm;have hl:=hI.len;have hp':((rs.take i).foldl (zcm p) R)[a.toNat]? = some p:=by
    rw[hX,List.getElem?_append_left (by omega)];exact hp
   have ll:R.length<=((rs.take i).foldl (zcm p) R).length:=by rw[hX];simp
   have st:=zkk (w0:=.d (netD n rs)) (w1:=w1) (z6:=.d (.int r.2.2)) (a:=a) (p:=p) (r:=r) (R:=(rs.take i).foldl (zcm p) R) (by omega) hp' (by omega);refine ⟨_,_,by simp[zar],st,.d (.int r.1),.d (.int r.2.1),.d (.int r.2.2), ?_⟩;rw[zgP (zcm p) _ hr])
 rw[List.length_map,List.length_map,List.take_length,List.map_map] at e;refine ⟨z4',z5',z6', ?_⟩;unfold zbq;unfold netD zbr zal at *;simp[e,ixN];rfl
def Clo (rs:List Road) (R:List Int) (a:Nat):Prop:=∀i p,i < a->R[i]? = some p->∀r∈rs,r.1=p->r.2.1∈R
theorem zke {n:Int} {rs:List Road} {w1 z4 z5 z6:O} (R:List Int) (a:Nat):zbp [.d (netD n rs),w1,zal R,.d (.int a),z4,z5,z6]=.ok (decide (a < R.length)) [.d (netD n rs),w1,zal R,.d (.int a),z4,z5,z6] true:=by
 unfold zbp zal;simp
structure zpc (n:Int) (rs:List Road) (one:Int) (T:TF) (S:SF) (l:Nat):Prop where
 tst:∀(w1:O) (R:List Int) (a:Nat) (zs:List O),zs.length=l->T (.d (netD n rs)::w1::zal R::.d (.int a)::zs)=.ok (decide (a < R.length)) (.d (netD n rs)::w1::zal R::.d (.int a)::zs) true
 rnd:∀(w1:O) (R:List Int) (a p:Int) (zs:List O),zs.length=l->Rc1 n rs one R->(0<=a/\a < R.length)->R[a.toNat]? = some p->∃zs',zs'.length=l/\S (.d (netD n rs)::w1::zal R::.d (.int a)::zs)=.nx (.d (netD n rs)::w1::zal (rs.foldl (zcm p) R)::.d (.int (a+1))::zs')
theorem zi6 {n one:Int} {rs:List Road} (ok:zaL n rs) {T:TF} {S:SF} {l:Nat} (lp:zpc n rs one T S l) {w1:O} (k:Nat):∀(R:List Int) (a:Nat) (zs:List O),zs.length=l->n.toNat<=k+a->a<=R.length->Rc1 n rs one R->Clo rs R a->
  ∃(R':List Int) (z:O) (zs':List O),zbL T S (k+1) (.d (netD n rs)::w1::zal R::.d (.int a)::zs)=.nx (.d (netD n rs)::w1::zal R'::z::zs')/\zs'.length=l/\Rc1 n rs one R'/\Clo rs R' R'.length/\∃X,R'=R++X:=by
 induction k with
 | zero=>
  intro R a zs hz hk ha h hc;have hl:=h.len;have c:¬a < R.length:=by omega
  refine ⟨R,.d (.int a),zs, ?_,hz,h, ?_,[],by simp⟩
  .rw[zbL,lp.tst w1 R a zs hz,decide_eq_false c]
  .have:R.length=a:=by omega
   rw[this];exact hc
 | succ k ih=>
  intro R a zs hz hk ha h hc
  by_cases c:a < R.length
  .have hp:R[((a:Int)).toNat]? = some R[a]:=by simp[c]
   obtain ⟨us,hu,e⟩:=lp.rnd w1 R a R[a] zs hz h ⟨by omega,by omega⟩ hp;obtain ⟨X,hX⟩:=zjK R[a] rs R;have hI:=zlM (p:=R[a]) ok rs R (fun r hr=>hr) h (List.getElem_mem c);have hC:Clo rs (rs.foldl (zcm R[a]) R) (a+1):=fun i p hi hp r hr e=>by
    by_cases z:i=a
    .subst z;rw[hX,List.getElem?_append_left c,List.getElem?_eq_getElem c] at hp;cases hp;exact znu rs R r hr e
    .rw[hX];rw[hX,List.getElem?_append_left (by omega)] at hp;exact List.mem_append_left _ (hc i p (by omega) hp r hr e)
   obtain ⟨R',z,zs',e2,l2,i2,c2,Y,hY⟩:=ih (rs.foldl (zcm R[a]) R) (a+1) us hu (by omega) (by rw[hX];simp;omega) hI hC;refine ⟨R',z,zs', ?_,l2,i2,c2,X++Y,by rw[hY,hX,List.append_assoc]⟩;rw[zbL,lp.tst w1 R a zs hz,decide_eq_true c];dsimp only;rw[e];exact e2
  .refine ⟨R,.d (.int a),zs, ?_,hz,h, ?_,[],by simp⟩
   .rw[zbL,lp.tst w1 R a zs hz,decide_eq_false c]
   .have:R.length=a:=by omega
    rw[this];exact hc
theorem zmm {n one:Int} {rs:List Road} (ok:zaL n rs):zpc n rs one zbp zbq 3 where
 tst w1 R a zs hz:=by
  match zs,hz with
  | [z4,z5,z6],_=>exact zke R a
 rnd w1 R a p zs hz h ha hp:=by
  match zs,hz with
  | [z4,z5,z6],_=>
   obtain ⟨u4,u5,u6,e⟩:=zi3 ok (w1:=w1) (z4:=z4) (z5:=z5) (z6:=z6) h ha hp;exact ⟨[u4,u5,u6],rfl,e⟩
theorem zrf {rs:List Road} {R:List Int} (hc:Clo rs R R.length):∀{p q L:Int},Wk rs p q L->p∈R->q∈R:=by
 intro p q L w
 induction w with
 | nil p=>exact id
 | cons hr _ ih=>
  intro hp;obtain ⟨i,hi,e⟩:=List.getElem_of_mem hp;exact ih (hc i _ hi (by rw[List.getElem?_eq_getElem hi,e]) _ hr rfl)
theorem zjV:∀R:List Int,dIs (R.map PyData.int)=some R
 | []=>rfl
 | x::xs=>by rw[List.map_cons,dIs,zjV xs];rfl
theorem zhV (R:List Int):zsOf (zal R)=some R:=by
 unfold zsOf;rw[zdY];exact zjV R
theorem ziE {R:List Int} (h:R.length < 64):zgy (zal R)=some (zal (zd4 R)):=by
 unfold zgy;rw[zhV];dsimp only;rw[if_pos h];rfl
structure Rch (n:Int) (rs:List Road) (one:Int) (R:List Int):Prop where
 nd:R.Nodup
 len:R.length<=n.toNat
 mem:∀v,v∈R↔∃L,Wk rs one v L
theorem zlb {n one:Int} {rs:List Road} (ok:zaL n rs) (h1:0<=one/\one < n) {T:TF} {S:SF} {l:Nat} (lp:zpc n rs one T S l) (zs:List O) (hz:zs.length=l):∃(R:List Int) (z:O) (zs':List O),zer T S (.d (netD n rs)::.d (.int one)::zal [one]::.d (.int 0)::zs)=.nx (.d (netD n rs)::.d (.int one)::zal R::z::zs')/\zs'.length=l/\Rch n rs one R:=by
 have n1:=ok.n1;have c0:Rc1 n rs one [one]:=⟨by simp,fun v hv=>by obtain rfl:=List.mem_singleton.mp hv;exact h1,fun v hv=>by obtain rfl:=List.mem_singleton.mp hv;exact ⟨0,.nil _⟩⟩;obtain ⟨R,z,zs',e,l,hI,hC,X,hX⟩:=zi6 ok lp (w1:=.d (.int one)) n.toNat [one] 0 zs hz (by omega) (by simp) c0 (fun i p hi=>by omega);exact ⟨R,z,zs',zhW e (by intro z;cases z),l,hI.nd,hI.len,fun v=>⟨hI.wk v,fun ⟨L,w⟩=>zrf hC w (by rw[hX];simp)⟩⟩
theorem zdF {n one:Int} {rs:List Road} (ok:zaL n rs) (h1:0<=one/\one < n):∃R:List Int,za3 [.d (netD n rs),.d (.int one)]=.ok (zal (zd4 R)) []/\Rch n rs one R:=by
 have n1:=ok.n1;obtain ⟨R,z,zs',e2,l,hR⟩:=zlb ok h1 (zmm ok) [.z,.z,.z] rfl;have hl:=hR.len;have so:=ziE (R:=R) (by omega);refine ⟨R, ?_,hR⟩
 match zs',l with
 | [b,c,d],_=>
 unfold za3 zb4;unfold zal at *;rw[List.map_singleton] at e2;simp (disch:=omega) [zbR,e2,so]
theorem zfM {n one:Int} {rs:List Road} (ok:zaL n rs) (h1:0<=one/\one < n) :
  ∃S:List Int,za3 [.d (netD n rs),.d (.int one)]=.ok (zal S) []/\(∀v,v∈S↔∃L,Wk rs one v L):=by
 obtain ⟨R,e,h⟩:=zdF ok h1;exact ⟨_,e,fun v=>(zcy R).mem_iff.trans (h.mem v)⟩
def tC (n:Int) (rs:List Road) (one v:Int):Option Int:=cell (zaP n.toNat rs) one.toNat v.toNat
theorem zsA {n one v:Int} {rs:List Road} (N:Net n rs) (h1:0<=one/\one < n) (hv:0<=v/\v < n) :
  ((∃L,Wk rs one v L)->tC n rs one v=some ((zaB n.toNat rs (farS one 40000000000)).h v))/\(¬(∃L,Wk rs one v L)->tC n rs one v=none):=by
 refine ⟨fun ⟨L,w⟩=>?_,fun h=>?_⟩
 .obtain ⟨ws,_,_,_,d,e,_⟩:=zka N.ok N.taut hv w;rw[e];exact (zbu N.ok N.taut h1 hv).mpr d
 .exact (zej N.ok N.taut h1 hv).mpr fun L w=>h ⟨L,w⟩
theorem zdz {n one:Int} {rs:List Road} (N:Net n rs) (h1:0<=one/\one < n) :
  zbg [.d (netD n rs),.d (.int one)]=.ok (fnO (eO (tC n rs one)) n.toNat) []:=by
 have n1:=N.ok.n1;have hr:okR n=true:=zeA (by omega) (by omega);have lf:=zfv N.ok h1;obtain ⟨S,pr,hS⟩:=zfM N.ok h1;obtain ⟨q,e⟩:=zfy (js:=[none,some 4,some 2]) (G:=gtN 0) (T:=gRet true) (A:=zb9)
  (ρ:=[.d (netD n rs),.d (.int one),fnO (hO (zaB n.toNat rs (farS one 40000000000)).h) n.toNat,fnO (eO (zaB n.toNat rs (farS one 40000000000)).e) n.toNat,zal S])
  (fun _=>true) (fun o=>match o with | .d (.int v)=>eO (tC n rs one) v | _=>.z) (items:=rngO 0 n.toNat) (acc:=[]) (q:=true) (fun y hy=>by
   obtain ⟨i,hi⟩:=List.getElem?_of_mem hy;obtain ⟨hi,rfl⟩:=zdR hi;have tq:=zsA N h1 (v:=0+i) (by omega);have fi:=zgg false S (0+i);have rd:=zn2 (ρ:=[.d (.int (0+i)),zal S,fnO (hO (zaB n.toNat rs (farS one 40000000000)).h) n.toNat]) (k:=2) (a:=0) (f:=hO (zaB n.toNat rs (farS one 40000000000)).h) (n:=n.toNat) (i:=0+i) rfl rfl (by omega) rfl;refine ⟨[.d (.int (0+i)),zal S,fnO (hO (zaB n.toNat rs (farS one 40000000000)).h) n.toNat],[.d (.int (0+i)),zal S,fnO (hO (zaB n.toNat rs (farS one 40000000000)).h) n.toNat],true,by simp,by simp,fun _=>?_,fun h=>by cases h⟩;refine ⟨.own (eO (tC n rs one) (0+i)),[.d (.int (0+i)),zal S,fnO (hO (zaB n.toNat rs (farS one 40000000000)).h) n.toNat],true,[.d (.int (0+i)),zal S,fnO (hO (zaB n.toNat rs (farS one 40000000000)).h) n.toNat], ?_, ?_,by simp⟩
   .unfold zb9
    by_cases c:(0+(i:Int))∈S
    .rw[show eO (tC n rs one) (0+i)=_ from congrArg cO (tq.1 ((hS _).mp c))];unfold zal fnO at *;simp[fi,c,rd,-zcV,cO,-Int.zero_add]
    .rw[show eO (tC n rs one) (0+i)=_ from congrArg cO (tq.2 fun z=>c ((hS _).mpr z))];unfold zal fnO at *;simp[fi,c,rd,-zcV,cO,-Int.zero_add]
   .show coe _ (.own (eO (tC n rs one) (0+i)))=some (eO (tC n rs one) (0+i),_)
    obtain ⟨x,hx⟩:=cO_d (tC n rs one (0+i));unfold eO;rw[hx];simp)
 have er:((rngO 0 n.toNat).map fun o=>match o with | .d (.int v)=>eO (tC n rs one) v | _=>.z)=(List.range n.toNat).map fun v:Nat=>eO (tC n rs one) v:=by
  unfold rngO;rw[List.map_map];apply List.map_congr_left;intro v _;simp[Function.comp]
 rw[zdc,List.nil_append,er] at e;unfold zbg zcw;unfold fnO zal netD at *;simp (disch:=omega) [lf,pr,zic hr,e,zcr,zbR,ixN]
def oD:Option Int->PyData
 | none=>.none
 | some x=>.int x
theorem zqN (o:Option Int):cO o=.d (oD o):=by cases o<;>rfl
theorem zjb {ρ:Rho} {k a b:Nat} {t:Tab} {n:Nat} {i j:Int} (sh:Shape n t) (hk:ρ[k]? = some (.d (tabD t))) (ha:ρ[a]? = some (.d (.int i))) (hb:ρ[b]? = some (.d (.int j))) (hi:0<=i/\i < n) (hj:0<=j/\j < n) :
  eIx (eIx (zab k) (zab a)) (zab b) ρ=.ok (.own (.d (oD (cell t i.toNat j.toNat)))) ρ true:=by
 obtain ⟨r,e1,e2,hm⟩:=sh.at (i:=i.toNat) (j:=j.toNat) (by omega) (by omega);have l1:=sh.len;have l2:=sh.row r hm;have f1:gIx ρ (.at k []) i=some (.own (.d (rowD r))):=by
  rw[zd2,hk];unfold tabD;simp[els,zez (n:=t.length) (i:=i) (by omega),e1,ze9]
 have f2:gIx ρ (.own (.d (rowD r))) j=some (.own (.d (oD (cell t i.toNat j.toNat)))):=by
  rw[zcv];unfold rowD;simp[els,zez (n:=r.length) (i:=j) (by omega),e2,ze9]
  cases cell t i.toNat j.toNat<;>rfl
 simp[hk,ha,hb,f1,f2,tabD,-zd2,-zcv]
@[simp] theorem zto (ρ:Rho) (i:Nat) (x:PyData) (h:ρ[i]? = some (.d x)):zf7 ρ (.at i [])=none:=by
 simp[zf7,h]
theorem zsm {T:TF} {S U:SF} {ρ ρ':Rho} {q:Bool} (h:T ρ=.ok false ρ' q):sIf T S U ρ=U ρ':=by simp[h]
theorem zmj (rs:List Road):fz (zbM rs)=some (zbr rs):=by
 have:=zfS (rs.map zar)
 rw[List.map_map] at this;exact this
theorem zhQ (n:Int) (rs:List Road):fz (netO n rs)=some (netD n rs):=by
 unfold netO netD;rw[fz,fzs,fz_d,fzs,zmj,fzs];rfl
theorem zp0 (r:List (Option Int)):fz (rowO r)=some (rowD r):=by
 unfold rowO rowD
 have:=zfS (r.map optD)
 rw[List.map_map] at this;rw[<-this]
 congr 2
 apply List.map_congr_left;intro o _
 cases o<;>rfl
theorem zjH:∀t:Tab,fzs (t.map rowO)=some (t.map rowD)
 | []=>by rw[List.map_nil,fzs];rfl
 | r::t=>by rw[List.map_cons,fzs,zp0,zjH t];rfl
theorem zlc (t:Tab):fz (tabO t)=some (tabD t):=by
 unfold tabO tabD;rw[fz,zjH];rfl
theorem zgL:∀r:List (Option Int),PyData.canLayAll0 (r.map optD)=true/\PyData.depthAll (r.map optD)=0
 | []=>by simp[PyData.canLayAll0,PyData.depthAll]
 | o::r=>by
  have:=zgL r
  cases o<;>simp[PyData.canLayAll0,PyData.depthAll,PyData.canLay0,PyData.depth,optD,this]
theorem zkw (r:List (Option Int)):SeqAt.shaped (rowD r)=true:=by
 have:=zgL r
 simp[SeqAt.shaped,rowD,PyData.canLay0,PyData.depth,this]
theorem zmE (r:List (Option Int)):((r.map optD).any fun y=>PyData.eqv y .none)=decide (none∈r):=by
 induction r with
 | nil=>simp
 | cons o r ih=>
  rw[List.map_cons,List.any_cons,ih]
  cases o<;>simp[PyData.eqv,optD]
end My
noncomputable section
namespace My
open PySem L2
def zdV:EF:=(zan [false,false] zbg (zae (zab 1) (zae (zab 0) aNil)))
def zeJ:SF:=(sSeq (zbQ (zan [false] za7 (zae (zab 0) aNil)))
  (sSeq (zbQ (zan [false] zbf (zae (zab 0) aNil)))
  (sRet coe (eLC (itR1 (eIx (zab 0) (eC (.int 0)))) [none,some 0] (gtN 0) (gRet true) zdV))))
def zaG:FC:=runF [false] 1 zeJ
end My
end
namespace My
open PySem L2
theorem zrE {n:Int} {rs:List Road} {i:Nat} {r:List (Option Int)} (hi:i < n.toNat) (hr:(zaP n.toNat rs)[i]? = some r) (hl:r.length=n.toNat):fnO (eO (tC n rs i)) n.toNat=rowO r:=by
 unfold fnO rowO
 congr 1
 apply List.ext_getElem?;intro j;rw[List.getElem?_map,List.getElem?_map]
 by_cases hj:j < n.toNat
 .rw[List.getElem?_range hj]
  have:r[j]? = some (cell (zaP n.toNat rs) i j):=by
   unfold cell;rw[hr,Option.getD_some,List.getElem?_eq_getElem (by omega)];rfl
  rw[this]
  show some (eO (tC n rs i) j)=some (cO _)
  unfold eO tC;exact rfl
 .rw[List.getElem?_eq_none (by simp;omega),List.getElem?_eq_none (by omega)];rfl
theorem zrr (n:Int) (rs:List Road):O.l ((List.range n.toNat).map fun i:Nat=>fnO (eO (tC n rs i)) n.toNat)=tabO (zaP n.toNat rs):=by
 have sh:=zcp n.toNat rs;unfold tabO
 congr 1
 apply List.ext_getElem?;intro i;rw[List.getElem?_map,List.getElem?_map]
 by_cases hi:i < n.toNat
 .rw[List.getElem?_range hi];have hl:i < (zaP n.toNat rs).length:=by rw[sh.len];exact hi
  have e:=List.getElem?_eq_getElem hl;rw[e];exact congrArg some (zrE hi e (sh.row _ (List.getElem_mem hl)))
 .rw[List.getElem?_eq_none (by simp;omega),List.getElem?_eq_none (by rw[sh.len];omega)];rfl
theorem zdD {n:Int} {rs:List Road} (ok:zaL n rs) (T:Taut rs):zaG [.d (netD n rs)]=.ok (tabO (zaP n.toNat rs)) []:=by
 have n0:=ok.n0;have n1:=ok.n1;have hr:okR n=true:=zeA (by omega) (by omega);have cn:=zc6 ok;have ct:=zdp ok T;obtain ⟨q,e⟩:=zfy (js:=[none,some 0]) (G:=gtN 0) (T:=gRet true) (A:=zdV) (ρ:=[.d (netD n rs)])
  (fun _=>true) (fun o=>match o with | .d (.int v)=>fnO (eO (tC n rs v)) n.toNat | _=>.z) (items:=rngO 0 n.toNat) (acc:=[]) (q:=true) (fun y hy=>by
   obtain ⟨i,hi⟩:=List.getElem?_of_mem hy;obtain ⟨hi,rfl⟩:=zdR hi;have lf:=zdz (one:=0+i) ⟨ok,by omega,T⟩ (by omega);refine ⟨[.d (.int (0+i)),.d (netD n rs)],[.d (.int (0+i)),.d (netD n rs)],true,by simp,by simp,fun _=>?_,fun h=>by cases h⟩;refine ⟨.own (fnO (eO (tC n rs (0+i))) n.toNat),[.d (.int (0+i)),.d (netD n rs)],false,[.d (.int (0+i)),.d (netD n rs)], ?_, ?_,by simp⟩
   .unfold zdV;unfold fnO at *;exact (zaA (zad rfl (zad rfl rfl rfl) rfl) rfl lf rfl rfl)
   .unfold fnO;simp)
 have er:((rngO 0 n.toNat).map fun o=>match o with | .d (.int v)=>fnO (eO (tC n rs v)) n.toNat | _=>.z)=(List.range n.toNat).map fun i:Nat=>fnO (eO (tC n rs i)) n.toNat:=by
  unfold rngO;rw[List.map_map];apply List.map_congr_left;intro v _;simp[Function.comp]
 rw[zdc,List.nil_append,er] at e;have ft:=zrr n rs;unfold zaG zeJ;generalize hX:((List.range n.toNat).map fun i:Nat=>fnO (eO (tC n rs i)) n.toNat)=Xs at *;unfold tabO netD at *;simp -implicitDefEqProofs (disch:=omega) [cn,ct,zic hr,e,zcr,zbR,ixN];exact O.l.inj ft
end My
noncomputable section
namespace My
open PySem L2
def zc1:SF:=(sSeq (sIf (gOr (gNot (zeo (eC (.int 0)) (zab 6) (eB (zae (zab 4) aNil) (f1 fLen)) (fun i j=>decide (i<=j)) (fun i j=>decide (i < j)))) (tst (e2 (eIx (eIx (zab 4) (zab 6)) (eC (.int 0))) (zab 5) (fEq true)))) (sRet mov (eC (.bool false))) sNil)
  (sAsg coe (eIx (eIx (zab 4) (zab 6)) (eC (.int 1))) (gtN 5)))
def zeI:SF:=(sSeq (sAsg coe (eIx (zab 0) (eC (.int 1))) (gtN 4))
  (sSeq (sAsg coe (zab 1) (gtN 5))
  (sSeq (zhO (srcM false (fun ds=>ds.map O.d) (zab 3)) (gtN 6) zc1)
  (sRet mov (e2 (zab 5) (zab 2) (fEq false))))))
def zdL:FC:=runF [false,false,false,false] 7 zeI
def zcx:EF:=(eIx (eIx (zab 1) (zab 0)) (eC (.int 2)))
def zcT:SF:=(sSeq (sAsg coe (eIx (zab 0) (eC (.int 1))) (gtN 2))
  (sRet coe (eB (zae (eLS (srcM true (fun ds=>ds.map O.d) (zab 1)) [none,some 2] (gtN 0) (gRet true) zcx) aNil) (f1 fSum))))
def zbc:FC:=runF [false,false] 3 zcT
end My
end
namespace My
open PySem L2
def entD (n:Nat) (e:Int->Option Int):PyData:=.list ((List.range n).map fun v:Nat=>oD (e v))
theorem znm (n:Nat) (e:Int->Option Int):fz (fnO (eO e) n)=some (entD n e):=by
 have h:=zfS ((List.range n).map fun v:Nat=>oD (e v));rw[List.map_map] at h;unfold fnO entD;rw[<-h]
 congr 2
 apply List.map_congr_left;intro v _;exact zqN _
theorem znn {ρ:Rho} {k:Nat} {ds:List PyData} {i:Int} {j:Nat} {x:PyData} (hk:ρ[k]? = some (.d (.list ds))) (hj:ixN ds.length i=some j) (hx:ds[j]? = some x):gIx ρ (.at k []) i=some (.own (.d x)):=by
 rw[zd2,hk];simp[els,hj,hx]
theorem zja {ρ:Rho} {k n:Nat} {e:Int->Option Int} {i x:Int} (hk:ρ[k]? = some (.d (entD n e))) (hi:0<=i/\i < n) (hx:e i=some x):gIx ρ (.at k []) i=some (.own (.d (.int x))):=by
 refine znn hk (j:=i.toNat) (zez ⟨hi.1,by simpa using hi.2⟩) ?_
 have:((i.toNat:Nat):Int)=i:=by omega
 have hl:i.toNat < n:=by omega
 rw[List.getElem?_map,List.getElem?_range hl];simp[this,hx,oD]
theorem zfz {ρ:Rho} {k:Nat} {rs:List Road} {i:Int} {r:Road} (hk:ρ[k]? = some (.d (.list (rs.map zar)))) (h:za2 rs i=some r):gIx ρ (.at k []) i=some (.own (.d (zar r))):=by
 obtain ⟨h0,h1,h2⟩:=zbF h;refine znn hk (j:=i.toNat) (zez ⟨h0,by simpa using h1⟩) ?_;rw[List.getElem?_map,h2];rfl
theorem zmB {ρ:Rho} {k:Nat} {ws:List Int} {x:Int} (hk:ρ[k]? = some (zal (ws++[x]))):gIx ρ (.at k []) (-1)=some (.own (.d (.int x))):=by
 have hi:ixN (ws.length+1) (-1)=some ws.length:=by
  unfold ixN;rw[if_neg (by omega),if_pos (by omega)]
  congr 1
  omega
 rw[zd2,hk];unfold zal;simp[els,hi]
theorem ziI {d0 d1 d2 d3:O} {rs:List Road} {ws:List Int} {k:Int} {r:Road} (h:za2 rs k=some r) :
  eIx (eIx (zab 4) (eIx (zab 5) (eC (.int (-1))))) (eC (.int 0)) [d0,d1,d2,d3,.d (.list (rs.map zar)),zal (ws++[k])]=.ok (.own (.d (.int r.1))) [d0,d1,d2,d3,.d (.list (rs.map zar)),zal (ws++[k])] true:=by
 have g1:=zmB (ρ:=[d0,d1,d2,d3,.d (.list (rs.map zar)),zal (ws++[k])]) (k:=5) rfl;have g2:=zfz (ρ:=[d0,d1,d2,d3,.d (.list (rs.map zar)),zal (ws++[k])]) (k:=4) (i:=k) rfl h;unfold zal at *;generalize (ws++[k]).map (fun h=>O.d (PyData.int h))=Wl at *;have g3:∀ρ,gIx ρ (.own (.d (zar r))) 0=some (.own (.d (.int r.1))):=fun ρ=>by rw[zcv];simp[els,zar,ixN]
 simp[g1,g2,g3,-zd2,-zcv]
theorem zks {n:Int} {rs:List Road} (ok:zaL n rs) {e:Int->Option Int} {y:Int} {d0 d3:O}:∀(ws done:List Int) (x k:Int),FB rs e y x (k::ws)->done.length+ws.length<=1000->
  zbL zbH zcf (ws.length+1) [d0,.d (entD n.toNat e),.d (.int y),d3,.d (.list (rs.map zar)),zal (done++[k])]=.nx [d0,.d (entD n.toNat e),.d (.int y),d3,.d (.list (rs.map zar)),zal (done++k::ws)]:=by
 intro ws
 induction ws with
 | nil=>
  intro done x k h hl;obtain ⟨_,r,hr,z⟩:=h;have hy:r.1=y:=z.elim (fun z=>z.1) fun z=>z.2.elim
  have fl:=ziI (d0:=d0) (d1:=.d (entD n.toNat e)) (d2:=.d (.int y)) (d3:=d3) (ws:=done) hr;rw[zbL];unfold zbH;unfold zal at *;generalize (done++[k]).map (fun h=>O.d (PyData.int h))=Wl at *;simp[fl,-zcV,hy]
 | cons k' ws ih=>
  intro done x k h hl;obtain ⟨_,r,hr,z⟩:=h;obtain ⟨hy,h'⟩:r.1≠y/\FB rs e y r.1 (k'::ws):=z.elim (fun z=>by cases z.2) id;have hin:=(ok.rd r (zcd hr)).1;have n0:=ok.n0;have fl:=ziI (d0:=d0) (d1:=.d (entD n.toNat e)) (d2:=.d (.int y)) (d3:=d3) (ws:=done) hr;have ge:=zja (ρ:=[d0,.d (entD n.toNat e),.d (.int y),d3,.d (.list (rs.map zar)),zal (done++[k])]) (k:=1) (n:=n.toNat) (e:=e) (i:=r.1) rfl (by omega) h'.1;have st:zcf [d0,.d (entD n.toNat e),.d (.int y),d3,.d (.list (rs.map zar)),zal (done++[k])]=.nx [d0,.d (entD n.toNat e),.d (.int y),d3,.d (.list (rs.map zar)),zal ((done++[k])++[k'])]:=by
   have ex:eIx (zab 1) (eIx (eIx (zab 4) (eIx (zab 5) (eC (.int (-1))))) (eC (.int 0))) [d0,.d (entD n.toNat e),.d (.int y),d3,.d (.list (rs.map zar)),zal (done++[k])]=.ok (.own (.d (.int k'))) [d0,.d (entD n.toNat e),.d (.int y),d3,.d (.list (rs.map zar)),zal (done++[k])] true:=by
    rw[zcV];unfold zal at *;generalize (done++[k]).map (fun h=>O.d (PyData.int h))=Wl at *;simp[fl,ge,-zd2,-zcV]
   simp only[List.length_cons] at hl;have hW:((done++[k]).map (fun h=>O.d (PyData.int h))).length=done.length+1:=by simp
   unfold zcf;unfold zal at *;rw[show ((done++[k])++[k']).map (fun h=>O.d (PyData.int h))=(done++[k]).map (fun h=>O.d (PyData.int h))++[O.d (.int k')] from by rw[List.map_append];rfl];generalize (done++[k]).map (fun h=>O.d (PyData.int h))=Wl at *;simp (disch:=omega) [ex,-zcV,zfb,hW]
  have t:zbH [d0,.d (entD n.toNat e),.d (.int y),d3,.d (.list (rs.map zar)),zal (done++[k])]=.ok true [d0,.d (entD n.toNat e),.d (.int y),d3,.d (.list (rs.map zar)),zal (done++[k])] true:=by
   unfold zbH;unfold zal at *;generalize (done++[k]).map (fun h=>O.d (PyData.int h))=Wl at *;simp[fl,-zcV,hy]
  rw[zbL,t];dsimp only;rw[st];dsimp only
  have:=ih (done++[k]) r.1 k' h' (by simp at hl ⊢;omega)
  have e2:done++[k]++k'::ws=done++k::k'::ws:=by simp
  rw[e2] at this;exact this
theorem zk5 (ws:List Int):fRev (zal ws)=some (zal ws.reverse):=by
 have e:ws.map (fun h=>O.d (PyData.int h))=(ws.map PyData.int).map O.d:=by rw[List.map_map];rfl
 unfold fRev zal;rw[e];simp only[els,ze2];rw[<-List.map_reverse,List.map_map];rfl
theorem zgH {n:Int} {rs:List Road} (ok:zaL n rs) {e:Int->Option Int} {y x:Int} {ws:List Int} (hx:0<=x/\x < n) (h:FB rs e y x ws) (hl:ws.length<=900) :
  zb5 [.d (netD n rs),.d (entD n.toNat e),.d (.int y),.d (.int x)]=.ok (zal ws.reverse) []:=by
 cases ws with
 | nil=>exact h.elim
 | cons k ws=>
  have ge:=zja (ρ:=[.d (netD n rs),.d (entD n.toNat e),.d (.int y),.d (.int x),.d (.list (rs.map zar)),.z]) (k:=1) (n:=n.toNat) (e:=e) (i:=x) rfl (by omega) h.1;have bw:=zhW (zks ok (d0:=.d (netD n rs)) (d3:=.d (.int x)) ws [] x k h (by simp at hl ⊢;omega)) (fun z=>by cases z);have rv:=zk5 ([]++k::ws);have b1:(sAsg coe (eIx (zab 0) (eC (.int 1))) (gtN 4)) [.d (netD n rs),.d (entD n.toNat e),.d (.int y),.d (.int x),.z,.z]=.nx [.d (netD n rs),.d (entD n.toNat e),.d (.int y),.d (.int x),.d (.list (rs.map zar)),.z]:=by
   unfold netD zbr;exact (zaE (zbb rfl (zaN rfl rfl rfl) rfl rfl) rfl rfl)
  have b2:(sAsg coe (zaQ coes .l (zae (eIx (zab 1) (zab 3)) aNil)) (gtN 5)) [.d (netD n rs),.d (entD n.toNat e),.d (.int y),.d (.int x),.d (.list (rs.map zar)),.z]=.nx [.d (netD n rs),.d (entD n.toNat e),.d (.int y),.d (.int x),.d (.list (rs.map zar)),zal ([]++[k])]:=by
   unfold zal;exact (zaE (zaK (zad (zbb rfl (zaN rfl rfl rfl) rfl ge) rfl rfl) rfl (Nat.le_of_ble_eq_true rfl) rfl) rfl rfl)
  have main:zcF [.d (netD n rs),.d (entD n.toNat e),.d (.int y),.d (.int x),.z,.z]=.rt (zal ([]++k::ws).reverse) [.d (netD n rs),.d (entD n.toNat e),.d (.int y),.d (.int x),.d (.list (rs.map zar)),zal ([]++k::ws)]:=by
   unfold zcF;rw[zdi b1,zdi b2,zdi bw];unfold zal at rv ⊢;generalize ([]++k::ws).map (fun h=>O.d (PyData.int h))=Wl at *;generalize ([]++k::ws).reverse.map (fun h=>O.d (PyData.int h))=Wr at *;exact (zbm (zsS rfl rfl rv) rfl)
  unfold zb5;rw[List.nil_append] at main;simp[main,runF]
theorem zgT {n:Int} {rs:List Road} (ok:zaL n rs) {s h:Int->Int} {e:Int->Option Int} (B:BI rs s h e) {v:Int} {ws:List Int} (hv:0<=v/\v < n) (hen:∀i,i < n.toNat->∃k r,e (itr rs e i v)=some k/\za2 rs k=some r)
  (hf:FB rs e (itr rs e n.toNat v) (itr rs e n.toNat v) ws):zb3 [.d (netD n rs),.d (entD n.toNat e),.d (.int v)]=.ok (zal ws.reverse) []:=by
 have n0:=ok.n0;have n1:=ok.n1;have hin:=zj7 ok B hv;have hl:=hf.len ok;have wb:=zgH ok (hin n.toNat) hf (by omega);have hr:okR n=true:=zeA (by omega) (by omega);obtain ⟨ρ',e4,u6,rfl⟩:=zcK (G:=gtN 6) (S:=zck) (items:=rngO 0 n.toNat) (ρ:=[.d (netD n rs),.d (entD n.toNat e),.d (.int v),.d (.int n),.d (.list (rs.map zar)),.d (.int v),.z])
  (fun i ρ=>∃u6,ρ=[.d (netD n rs),.d (entD n.toNat e),.d (.int v),.d (.int n),.d (.list (rs.map zar)),.d (.int (itr rs e i v)),u6]) ⟨.z,rfl⟩
  (fun i x ρ hx hx__=>by
   obtain ⟨u6,e1⟩:=hx__;obtain ⟨hi,rfl⟩:=zdR hx;subst e1;obtain ⟨k,r,h1,h2⟩:=hen i hi;have hi':=hin i;have ge:=zja (ρ:=[.d (netD n rs),.d (entD n.toNat e),.d (.int v),.d (.int n),.d (.list (rs.map zar)),.d (.int (itr rs e i v)),.d (.int (0+i))]) (k:=1) (n:=n.toNat) (e:=e) (i:=itr rs e i v) rfl (by omega) h1;have gr:=zfz (ρ:=[.d (netD n rs),.d (entD n.toNat e),.d (.int v),.d (.int n),.d (.list (rs.map zar)),.d (.int (itr rs e i v)),.d (.int (0+i))]) (k:=4) rfl h2;have g3:∀ρ,gIx ρ (.own (.d (zar r))) 0=some (.own (.d (.int r.1))):=fun ρ=>by rw[zcv];simp[els,zar,ixN]
   have es:itr rs e (i+1) v=r.1:=zj9 h1 h2;refine ⟨[.d (netD n rs),.d (entD n.toNat e),.d (.int v),.d (.int n),.d (.list (rs.map zar)),.d (.int (itr rs e i v)),.d (.int (0+i))],[.d (netD n rs),.d (entD n.toNat e),.d (.int v),.d (.int n),.d (.list (rs.map zar)),.d (.int r.1),.d (.int (0+i))],by simp, ?_,.d (.int (0+i)),by rw[es]⟩;unfold zck;simp[ge,gr,g3,-zd2,-zcv,-Int.zero_add])
 rw[zcr] at e4;have g1:∀ρ:Rho,ρ=ρ:=fun _=>rfl
 unfold zb3 zcG;unfold netD zbr at *;simp (disch:=omega) [zic hr,e4,wb,zcr]
theorem zjn {n:Int} {rs:List Road} (ok:zaL n rs) :
  (Taut rs/\zaT [.d (netD n rs)]=.ok (.t [.d (.str "heights"),fnO (hO (zaB n.toNat rs fun _=>0).h) n.toNat]) [])\/
  (¬Taut rs/\∃ws x,zaT [.d (netD n rs)]=.ok (.t [.d (.str "ring"),zal ws.reverse]) []/\FB rs (zaB n.toNat rs fun _=>0).e x x ws/\za0 rs ws < 0):=by
 have n0:=ok.n0;have n1:=ok.n1;have c:=zc6 ok;have lo:=zh8 ok (fun _=>0);have B:=zdt n.toNat rs (fun _=>0);rcases zgJ ok (fun _=>0) with ⟨h1,P⟩ | ⟨v,h1,hv,hen,ws,hf,hw⟩
 .refine .inl ⟨P.taut, ?_⟩;rw[h1,zfj] at lo;unfold zaT zcY;generalize (zaB n.toNat rs fun _=>0)=b at *;unfold fnO netD cO at *;exact (zbX rfl (zaq (zbv (zbD (zad rfl rfl rfl) rfl c rfl)) (zaq (zaE (zaA (zad rfl (zad (zax (zaK (zad rfl rfl rfl) rfl (Nat.le_of_ble_eq_true rfl) rfl) (zbb rfl (zaN rfl rfl rfl) rfl rfl) rfl rfl rfl (zeO n0 (by omega))) rfl rfl) rfl) rfl lo rfl rfl) rfl rfl) (zfY (if_t (za4 (zax rfl rfl rfl rfl rfl rfl) rfl) (zbm (zaK (zad rfl (zad rfl rfl rfl) rfl) rfl (Nat.le_of_ble_eq_true rfl) rfl) rfl))))) rfl)
 .refine .inr ⟨fun T=>?_,ws,_, ?_,hf,hw⟩
  .have:=T _ _ (zec (B.leads hf.bk))
   rw[zdq] at this;omega
  .have rb:=zgT ok B hv hen hf;rw[h1,zfj] at lo;unfold zaT zcY;generalize (zaB n.toNat rs fun _=>0)=b at *;have fe:=znm n.toNat b.e;unfold fnO at *;generalize ((List.range n.toNat).map fun v:Nat=>eO b.e v)=Es at *;unfold zal at *;generalize ws.reverse.map (fun h=>O.d (PyData.int h))=Z at *;unfold netD cO at *;exact (zbX rfl (zaq (zbv (zbD (zad rfl rfl rfl) rfl c rfl)) (zaq (zaE (zaA (zad rfl (zad (zax (zaK (zad rfl rfl rfl) rfl (Nat.le_of_ble_eq_true rfl) rfl) (zbb rfl (zaN rfl rfl rfl) rfl rfl) rfl rfl rfl (zeO n0 (by omega))) rfl rfl) rfl) rfl lo rfl rfl) rfl rfl) (zaq (if_f (za4 (zax rfl rfl rfl rfl rfl rfl) rfl) rfl) (zbm (zaK (zad rfl (zad (zaA (zad rfl (zad rfl (zad rfl rfl rfl) rfl) rfl) (zca rfl (zca (zkl rfl fe) rfl)) rb rfl rfl) rfl rfl) rfl) rfl (Nat.le_of_ble_eq_true rfl) rfl) rfl)))) rfl)
theorem zfG (ws:List Int):(ws.map PyData.int).map O.d=ws.map fun k=>O.d (.int k):=by rw[List.map_map];rfl
theorem zkq {rs:List Road} {p q k:Int} {ws:List Int} (h:zbC rs p q (k::ws)=true):∃r,za2 rs k=some r/\r.1=p/\zbC rs r.2.1 q ws=true:=by
 rw[zbC] at h
 cases e:za2 rs k with
 | none=>rw[e] at h;cases h
 | some r=>
  rw[e] at h;dsimp only at h
  by_cases z:r.1=p
  .rw[if_pos z] at h;exact ⟨r,rfl,z,h⟩
  .rw[if_neg z] at h;cases h
theorem zlZ {ρ:Rho} (r:Road):gIx ρ (.own (.d (zar r))) 0=some (.own (.d (.int r.1)))/\gIx ρ (.own (.d (zar r))) 1=some (.own (.d (.int r.2.1)))/\gIx ρ (.own (.d (zar r))) 2=some (.own (.d (.int r.2.2))):=by
 refine ⟨?_, ?_, ?_⟩<;>rw[zcv]<;>simp[els,zar,ixN]
theorem zj3 {rs:List Road} {k:Int} {r:Road} (hr:za2 rs k=some r) (ρ:Rho):gIx ρ (.own (.d (.list (rs.map zar)))) k=some (.own (.d (zar r))):=by
 obtain ⟨h0,h1,h2⟩:=zbF hr;rw[zcv]
 have:=zez (n:=rs.length) (i:=k) ⟨h0,h1⟩
 simp[els,this,h2]
theorem zf0 {n:Int} {rs:List Road} {ρ:Rho} {j:Nat} (hρ:ρ[j]? = some (.d (netD n rs))):gIx ρ (.at j []) 1=some (.own (.d (.list (rs.map zar)))):=by
 rw[zd2,hρ];exact rfl
theorem zkA {rs:List Road} {d0 d1 d2 d3:O} {q:Int}:∀(ws:List Int) (p:Int) (z:O),zbC rs p q ws=true->
  ∃z',forF (gtN 6) zc1 (ws.map fun k=>O.d (.int k)) [d0,d1,d2,d3,.d (.list (rs.map zar)),.d (.int p),z]=.nx [d0,d1,d2,d3,.d (.list (rs.map zar)),.d (.int q),z']:=by
 intro ws
 induction ws with
 | nil=>
  intro p z h;rw[zbC] at h;obtain rfl:=of_decide_eq_true h;exact ⟨z,rfl⟩
 | cons k ws ih=>
  intro p z h;obtain ⟨r,hr,hp,h'⟩:=zkq h;obtain ⟨h0,h1,h2⟩:=zbF hr;obtain ⟨z',e⟩:=ih r.2.1 (.d (.int k)) h';refine ⟨z', ?_⟩;have gr:=zfz (ρ:=[d0,d1,d2,d3,.d (.list (rs.map zar)),.d (.int p),.d (.int k)]) (k:=4) rfl hr;have g0:=fun ρ=>(zlZ (ρ:=ρ) r).1
  have g1:=fun ρ=>(zlZ (ρ:=ρ) r).2.1
  have st:zc1 [d0,d1,d2,d3,.d (.list (rs.map zar)),.d (.int p),.d (.int k)]=.nx [d0,d1,d2,d3,.d (.list (rs.map zar)),.d (.int r.2.1),.d (.int k)]:=by
   unfold zc1;simp[gr,g0,g1,-zd2,-zcv,h0,h1,hp]
  rw[List.map_cons,forF];simp[st,e]
theorem zne {n p q:Int} {rs:List Road} {ws:List Int} (h:zbC rs p q ws=true):zdL [.d (netD n rs),.d (.int p),.d (.int q),.d (zb2 ws)]=.ok (.d (.bool true)) []:=by
 obtain ⟨z',e⟩:=zkA (d0:=.d (netD n rs)) (d1:=.d (.int p)) (d2:=.d (.int q)) (d3:=.d (zb2 ws)) ws p .z h;rw[<-zfG] at e;unfold zdL zeI;unfold zb2 netD zbr at *;simp[e,-List.map_map,ixN]
theorem zd9 {n:Int} {rs:List Road} {ws:List Int} (hl:ws.length<=1000) (hA:zmK rs ws):zbc [.d (netD n rs),.d (zb2 ws)]=.ok (.d (.int (za0 rs ws))) []:=by
 obtain ⟨q,e⟩:=zfy (js:=[none,some 2]) (G:=gtN 0) (T:=gRet true) (A:=zcx) (ρ:=[.d (netD n rs),.d (zb2 ws),.d (.list (rs.map zar))]) (fun _=>true) (fun o=>match o with | .d (.int k)=>.d (.int (zgS rs k)) | _=>.z) (items:=(ws.map PyData.int).map O.d) (acc:=[]) (q:=true) (fun y hy=>by
  rw[zfG] at hy;obtain ⟨k,hk,rfl⟩:=List.mem_map.mp hy;obtain ⟨r,hr⟩:∃r,za2 rs k=some r:=by
   obtain ⟨h0,h1⟩:=hA k hk;obtain ⟨r,hr,_⟩:=zgE h0 h1;exact ⟨r,hr⟩
  have gr:=zfz (ρ:=[.d (.int k),.d (.list (rs.map zar))]) (k:=1) rfl hr;have g2:=fun ρ=>(zlZ (ρ:=ρ) r).2.2
  have el:=zea hr;refine ⟨[.d (.int k),.d (.list (rs.map zar))],[.d (.int k),.d (.list (rs.map zar))],true,by simp,by simp,(fun _=>⟨.own (.d (.int (zgS rs k))),[.d (.int k),.d (.list (rs.map zar))],true,[.d (.int k),.d (.list (rs.map zar))], ?_,by simp,by simp⟩),(fun h=>by cases h)⟩;unfold zcx;rw[el];simp[gr,g2,-zd2,-zcv])
 have em:((ws.map PyData.int).map O.d).map (fun o=>match o with | .d (.int k)=>O.d (.int (zgS rs k)) | _=>.z)=(ws.map (zgS rs)).map fun h=>O.d (.int h):=by
  rw[zfG,List.map_map,List.map_map];rfl
 rw[zdc,List.nil_append,em] at e;have z:=zhV (ws.map (zgS rs));unfold zbc zcT za0;unfold zal zb2 netD zbr at *;generalize (ws.map (zgS rs)).map (fun h=>O.d (PyData.int h))=Z at *;simp (disch:=omega) [zf7,sub,e,zbR,-List.map_map,f1,fSum,z,ixN]
def ziq (s:Str) (ws:List Int):PyData:=.tuple [.str s,zb2 ws]
theorem zjs {s:Str} {o:O} {ws:List Int} (h:fz o=some (zb2 ws)):fz (.t [.d (.str s),o])=some (ziq s ws):=by
 simp[fz,fzs,h,ziq]
theorem zof {A B:SF} {ρ ρ':Rho} {o:O} (h:A ρ=.rt o ρ'):sSeq A B ρ=.rt o ρ':=by unfold sSeq;rw[h]
theorem zhD {ms:List Bool} {n:Nat} {S:SF} {os:List O} {o:O} {ρ':Rho} (h:S (os++List.replicate (n - os.length) .z)=.rt o ρ'):runF ms n S os=.ok o (zc4 ms ρ'):=by unfold runF;rw[h]
theorem zgC:PyData.strOk (Str.ofString "heights")=true:=by decide +kernel
theorem zjY {s:Str} (hs:PyData.strOk s=true):fEq true (.d (.str s)) (.d (.str s))=some (.d (.bool false)):=by
 have c:(PyData.str s).canLay0=true:=by simp[PyData.canLay0,hs]
 have e:=zfo _ c;have sh:SeqAt.shaped (.str s)=true:=by simp[SeqAt.shaped,c,PyData.depth]
 simp[fEq,sh,e]
end My
noncomputable section
namespace My
open PySem L2
def zb6:SF:=(sSeq (sAsg coe (zan [false,false] za3 (zae (zab 0) (zae (zab 1) aNil))) (gtN 3))
  (sSeq (sIf (tst (e2 (zab 2) (zab 3) (fIn true))) (sRet mov (zaQ movs mkT (zae (eC (.str "none")) (zae (zab 3) aNil)))) sNil)
  (sSeq (sAsg coe (zan [false,false] zbJ (zae (zab 0) (zae (zab 1) aNil))) (gtT (zau (gtN 4) (zau (gtN 5) zbZ))))
  (sSeq (sIf (tst (e2 (zab 1) (zab 2) (fEq false))) (sRet mov (zaQ movs mkT (zae (eC (.str "way")) (zae (zaQ movs .l aNil) (zae (zab 4) aNil))))) sNil)
  (sRet mov (zaQ movs mkT (zae (eC (.str "way")) (zae (zan [false,false,false,false] zb5 (zae (zab 0) (zae (zab 5) (zae (zab 1) (zae (zab 2) aNil))))) (zae (zab 4) aNil)))))))))
def zaF:FC:=runF [false,false,false] 6 zb6
def zeL:SF:=(sSeq (zbQ (zan [false,false,false] zaS (zae (zab 0) (zae (zab 1) (zae (zab 2) aNil)))))
  (sSeq (zbQ (zan [false] zbf (zae (zab 0) aNil)))
  (sRet mov (zan [false,false,false] zaF (zae (zab 0) (zae (zab 1) (zae (zab 2) aNil)))))))
def za5:FC:=runF [false,false,false] 3 zeL
end My
end
namespace My
open PySem L2
theorem zlO {l:List Int} (h:l.Nodup):l.reverse.Nodup:=List.pairwise_reverse.mpr (h.imp fun e=>Ne.symm e)
structure LW (n:Int) (rs:List Road) (one other:Int) (W hs:List Int):Prop where
 ld:zbC rs one other W=true
 nd:(W.map (zeT rs)).Nodup
 lW:W.length<=20
 lh:hs.length=n.toNat
 pot:Pot rs (hgt hs)
 bd:∀h∈hs,-20000000000<=h/\h<=40000000000
 df:hgt hs other - hgt hs one=za0 rs W
 ds:Dist rs one other (za0 rs W)
 no:other∉W.map (zeT rs)
def hsOf (n:Nat) (h:Int->Int):List Int:=(List.range n).map fun v:Nat=>h v
theorem zhA (n:Nat) (h:Int->Int):fnO (hO h) n=zal (hsOf n h):=by
 unfold fnO zal hsOf;rw[List.map_map];rfl
theorem zqz {n:Nat} {h:Int->Int} {v:Int} (hv:0<=v/\v < n):hgt (hsOf n h) v=h v:=by
 unfold hgt hsOf;rw[List.getD_eq_getElem?_getD,List.getElem?_map,List.getElem?_range (by omega),Option.map_some,Option.getD_some,Int.toNat_of_nonneg hv.1]
theorem zrH {n one other:Int} {rs:List Road} (ok:zaL n rs) (T:Taut rs) (h1:0<=one/\one < n) (h2:0<=other/\other < n) {W:List Int} (ld:zbC rs one other W=true) (nd:(W.map (zeT rs)).Nodup) (lW:W.length<=20)
  (no:other∉W.map (zeT rs)) (df:(zaB n.toNat rs (farS one 40000000000)).h other - (zaB n.toNat rs (farS one 40000000000)).h one=za0 rs W):LW n rs one other W (hsOf n.toNat (zaB n.toNat rs (farS one 40000000000)).h):=by
 have P:=(zcQ ok T (farS one 40000000000)).2;have n0:=ok.n0;have ev:∀v,0<=v/\v < n->hgt (hsOf n.toNat (zaB n.toNat rs (farS one 40000000000)).h) v=(zaB n.toNat rs (farS one 40000000000)).h v:=fun v hv=>zqz (by omega)
 refine ⟨ld,nd,lW,by unfold hsOf;simp,fun r hr=>?_,fun x hx=>?_,by rw[ev _ h1,ev _ h2];exact df,⟨zec ld,fun L w=>?_⟩,no⟩
 .obtain ⟨a,b,_⟩:=ok.rd r hr;rw[ev _ a,ev _ b];exact P r hr
 .obtain ⟨v,hv,rfl⟩:=List.mem_map.mp hx
  have:=List.mem_range.mp hv
  exact zqe ok T (by omega)
 .have:=P.wk w
  omega
theorem zdy {n one other:Int} {rs:List Road} (ok:zaL n rs) (T:Taut rs) (h1:0<=one/\one < n) (h2:0<=other/\other < n) :
  ((∀L,¬Wk rs one other L)/\∃R,zaF [.d (netD n rs),.d (.int one),.d (.int other)]=.ok (.t [.d (.str "none"),zal (zd4 R)]) []/\Rch n rs one R)\/
  (∃W hs,zaF [.d (netD n rs),.d (.int one),.d (.int other)]=.ok (.t [.d (.str "way"),zal W,zal hs]) []/\LW n rs one other W hs):=by
 have n1:=ok.n1;obtain ⟨R,e1,hR⟩:=zdF ok h1;have mR:other∈zd4 R↔∃L,Wk rs one other L:=(zcy R).mem_iff.trans (hR.mem other);have fi:=zgg true (zd4 R) other;have lo:=zfv ok h1;have B:=zdt n.toNat rs (farS one 40000000000);have P:=(zcQ ok T (farS one 40000000000)).2
 by_cases c:∃L,Wk rs one other L
 .right
  have c':=mR.mpr c;obtain ⟨L,w⟩:=c;obtain ⟨ws,hb,_,hl,hd,hh,h0⟩:=zka ok T h2 w
  by_cases z:one=other
  .subst z;refine ⟨[],_, ?_,zrH ok T h1 h1 (by simp[zbC]) (by simp) (by simp) (by simp) (by simp[za0])⟩;rw[<-zhA];have c2:decide (one∈zd4 R)=true:=decide_eq_true c';rw[c2] at fi;have oe:fEq false (.d (.int one)) (.d (.int one))=some (.d (.bool true)):=by simp
   unfold zaF zb6;exact (zbX rfl (zaq (zaE (zaA (zad rfl (zad rfl rfl rfl) rfl) rfl e1 rfl rfl) rfl rfl) (zaq (if_f (za4 (zax rfl rfl rfl rfl rfl fi) rfl) rfl) (zaq (zaE (zaA (zad rfl (zad rfl rfl rfl) rfl) rfl lo rfl rfl) rfl rfl) (zfY (if_t (za4 (zax rfl rfl rfl rfl rfl oe) rfl) (zbm (zaK (zad rfl (zad (zaK rfl rfl (Nat.le_of_ble_eq_true rfl) rfl) (zad rfl rfl rfl) rfl) rfl) rfl (Nat.le_of_ble_eq_true rfl) rfl) rfl)))))) rfl)
  .have hne:ws≠[]:=fun e=>by
    subst e;exact z hb.symm
   obtain ⟨ws',hf,hl'⟩:=FB.ex hne hb;have wb:=zgH ok h2 hf (by omega);have ee:=B.bk_eq P hf.bk;refine ⟨ws'.reverse,_, ?_,zrH ok T h1 h2 (B.leads hf.bk) (by rw[List.map_reverse];exact zlO hf.nodup) (by simp;omega) (by rw[List.map_reverse];exact fun q=>hf.last (Ne.symm z) (List.mem_reverse.mp q)) (by rw[zdq];omega)⟩;rw[<-zhA];have c2:decide (other∈zd4 R)=true:=decide_eq_true c';rw[c2] at fi;have fe:=znm n.toNat (zaB n.toNat rs (farS one 40000000000)).e;have oe:fEq false (.d (.int one)) (.d (.int other))=some (.d (.bool false)):=by simp[z]
   unfold zaF zb6;exact (zbX rfl (zaq (zaE (zaA (zad rfl (zad rfl rfl rfl) rfl) rfl e1 rfl rfl) rfl rfl) (zaq (if_f (za4 (zax rfl rfl rfl rfl rfl fi) rfl) rfl) (zaq (zaE (zaA (zad rfl (zad rfl rfl rfl) rfl) rfl lo rfl rfl) rfl rfl) (zaq (if_f (za4 (zax rfl rfl rfl rfl rfl oe) rfl) rfl) (zbm (zaK (zad rfl (zad (zaA (zad rfl (zad rfl (zad rfl (zad rfl rfl rfl) rfl) rfl) rfl) (zca rfl (zca (zkl rfl fe) rfl)) wb rfl rfl) (zad rfl rfl rfl) rfl) rfl) rfl (Nat.le_of_ble_eq_true rfl) rfl) rfl))))) rfl)
 .left
  refine ⟨fun L w=>c ⟨L,w⟩,R, ?_,hR⟩;have c2:decide (other∈zd4 R)=false:=decide_eq_false fun z=>c (mR.mp z)
  rw[c2] at fi;unfold zaF zb6;unfold zal at *;generalize (zd4 R).map (fun h=>O.d (PyData.int h))=Z at *;exact (zbX rfl (zaq (zaE (zaA (zad rfl (zad rfl rfl rfl) rfl) rfl e1 rfl rfl) rfl rfl) (zfY (if_t (za4 (zax rfl rfl rfl rfl rfl fi) rfl) (zbm (zaK (zad rfl (zad rfl rfl rfl) rfl) rfl (Nat.le_of_ble_eq_true rfl) rfl) rfl)))) rfl)
theorem zhI {n one other:Int} {rs:List Road} (ok:zaL n rs) (T:Taut rs) (h1:0<=one/\one < n) (h2:0<=other/\other < n) :
  ((∀L,¬Wk rs one other L)/\∃R,za5 [.d (netD n rs),.d (.int one),.d (.int other)]=.ok (.t [.d (.str "none"),zal (zd4 R)]) []/\Rch n rs one R)\/
  (∃W hs,za5 [.d (netD n rs),.d (.int one),.d (.int other)]=.ok (.t [.d (.str "way"),zal W,zal hs]) []/\LW n rs one other W hs):=by
 have c1:=zcg ok h1 h2;have c2:=zdp ok T;have key:∀ts:List O,zaF [.d (netD n rs),.d (.int one),.d (.int other)]=.ok (.t ts) []->za5 [.d (netD n rs),.d (.int one),.d (.int other)]=.ok (.t ts) []:=fun ts h=>by
  unfold za5 zeL;generalize netD n rs=Nd at *;exact (zbX rfl (zaq (zbv (zbD (zad rfl (zad rfl (zad rfl rfl rfl) rfl) rfl) rfl c1 rfl)) (zaq (zbv (zbD (zad rfl rfl rfl) rfl c2 rfl)) (zbm (zaA (zad rfl (zad rfl (zad rfl rfl rfl) rfl) rfl) rfl h rfl rfl) rfl))) rfl)
 rcases zdy ok T h1 h2 with ⟨a,R,e,h⟩ | ⟨W,hs,e,h⟩
 .exact .inl ⟨a,R,key _ e,h⟩
 .exact .inr ⟨W,hs,key _ e,h⟩
theorem zlx {s t:Str} (hs:PyData.strOk s=true) (ht:PyData.strOk t=true) (b:Bool) (h:PyData.eqv (.str s) (.str t)=false):fEq b (.d (.str s)) (.d (.str t))=some (.d (.bool b)):=by
 have cs:(PyData.str s).canLay0=true:=by simp[PyData.canLay0,hs]
 have ct:(PyData.str t).canLay0=true:=by simp[PyData.canLay0,ht]
 have ss:SeqAt.shaped (.str s)=true:=by simp[SeqAt.shaped,cs,PyData.depth]
 have st:SeqAt.shaped (.str t)=true:=by simp[SeqAt.shaped,ct,PyData.depth]
 cases b<;>simp[fEq,ss,st,h]
theorem zoV:PyData.strOk (Str.ofString "way")=true:=by decide +kernel
theorem zhm:PyData.strOk (Str.ofString "none")=true:=by decide +kernel
theorem zdM:fEq false (.d (.str "way")) (.d (.str "none"))=some (.d (.bool false)):=zlx zoV zhm false (by decide +kernel)
namespace K10
end K10
theorem zaq {A B:SF} {ρ ρ':Rho} {r:Rt} (h:A ρ=.nx ρ') (k:B ρ'=r):sSeq A B ρ=r:=(zdi h).trans k
theorem zsH (ρ:Rho):zc4 [false,false,false,false] ρ=[]:=by
 rcases ρ with _ | ⟨a,_ | ⟨b,_ | ⟨c,_ | ⟨d,e⟩⟩⟩⟩<;>rfl
theorem zhz {o o':O} {d:PyData} (h:fz o=some d) (h':fz o'=some d) (s:SeqAt.shaped d=true) (e:PyData.eqv d d=true) (b:Bool):fEq b o o'=some (.d (.bool (!b))):=by
 unfold fEq;rw[h,h']
 cases b<;>simp[s,e]
namespace K10
end K10
end My
namespace L2
open PySem PySem.Spec PyProof.Rows
section
variable {X:Cx}
end
end L2
noncomputable section
namespace My
open PySem L2
def zdT:SF:=(sSeq (sIf (tst (e2 (eC .none) (zab 0) (fIn false))) (sRet mov (eC .none)) sNil)
  (sRet mov (eB (zae (zab 0) aNil) (f1 fSum))))
def zb1:FC:=runF [false] 1 zdT
def zcO:SF:=(sIf (gNot (zeo (eC (.int 0)) (zab 1) (eB (zae (eIx (zab 0) (eC (.int 1))) aNil) (f1 fLen)) (fun i j=>decide (i<=j)) (fun i j=>decide (i < j)))) sBad sNil)
def zbK:FC:=runF [false,false] 2 zcO
def zbx:SF:=(sSeq (zbQ (zan [false,false,false] zaS (zae (zab 0) (zae (zab 1) (zae (zab 2) aNil)))))
  (sSeq (zbQ (zan [false,false] zbK (zae (zab 0) (zae (zab 3) aNil))))
  (zbQ (zan [false] zbf (zae (zab 0) aNil)))))
def zaW:FC:=runF [false,false,false,false] 4 zbx
def zfi:SF:=(sSeq (zbQ (zan [false,false,false,false] zaW (zae (zab 0) (zae (zab 1) (zae (zab 2) (zae (zab 3) aNil))))))
  (sSeq (sAsg coe (eIx (eIx (zab 0) (eC (.int 1))) (zab 3)) (gtT (zau (gtN 4) (zau (gtN 5) (zau (gtN 6) zbZ)))))
  (sSeq (sAsg coe (zan [false,false,false] zaF (zae (zab 0) (zae (zab 1) (zae (zab 4) aNil)))) (gtN 7))
  (sSeq (sAsg coe (zan [false,false,false] zaF (zae (zab 0) (zae (zab 5) (zae (zab 2) aNil)))) (gtN 8))
  (sSeq (sIf (gOr (tst (e2 (eIx (zab 7) (eC (.int 0))) (eC (.str "none")) (fEq false))) (tst (e2 (eIx (zab 8) (eC (.int 0))) (eC (.str "none")) (fEq false)))) (sRet mov (eC .none)) sNil)
  (sSeq (sAsg coe (e2 (e2 (eIx (zab 7) (eC (.int 1))) (zaQ coes .l (zae (zab 3) aNil)) fAdd) (eIx (zab 8) (eC (.int 1))) fAdd) (gtN 9))
  (sRet mov (zaQ movs mkT (zae (zan [false,false] zbc (zae (zab 0) (zae (zab 9) aNil))) (zae (zab 9) aNil))))))))))
def zcJ:FC:=runF [false,false,false,false] 10 zfi
end My
end
namespace My
open PySem L2
theorem zfu {n k:Int} {rs:List Road} (hk:0<=k/\k < rs.length):zbK [.d (netD n rs),.d (.int k)]=.ok (.d .none) []:=by
 have gn:=zf0 (n:=n) (rs:=rs) (ρ:=[.d (netD n rs),.d (.int k)]) (j:=0) rfl;unfold zbK zcO;generalize netD n rs=Nd at *;simp[gn,-zd2,els,hk.1,hk.2]
theorem ziO {n one other k:Int} {rs:List Road} (ok:zaL n rs) (T:Taut rs) (h1:0<=one/\one < n) (h2:0<=other/\other < n) (hk:0<=k/\k < rs.length):zaW [.d (netD n rs),.d (.int one),.d (.int other),.d (.int k)]=.ok (.d .none) []:=by
 have c1:=zcg ok h1 h2;have c2:=zfu (n:=n) hk;have c3:=zdp ok T;unfold zaW zbx;generalize netD n rs=Nd at *;exact (znk rfl (zaq (zbv (zbD (zad rfl (zad rfl (zad rfl rfl rfl) rfl) rfl) rfl c1 rfl)) (zaq (zbv (zbD (zad rfl (zad rfl rfl rfl) rfl) rfl c2 rfl)) (zbv (zbD (zad rfl rfl rfl) rfl c3 rfl)))) rfl)
structure BW (rs:List Road) (one other k L:Int) (W:List Int):Prop where
 ld:zbC rs one other W=true
 ln:za0 rs W=L
 mem:k∈W
 len:W.length<=41
theorem zsu {n one other k:Int} {rs:List Road} {r:Road} {A B a b:List Int} (hr:za2 rs k=some r) (x:LW n rs one r.1 A a) (y:LW n rs r.2.1 other B b):BW rs one other k (za0 rs A+r.2.2+za0 rs B) (A++[k]++B):=by
 refine ⟨zeB (zeB x.ld (zgk hr)) y.ld, ?_,by simp, ?_⟩
 .rw[zg8,zg8,zcU,zea hr];simp[za0]
 .have:=x.lW
  have:=y.lW
  simp;omega
theorem zfe {a b:List Int} (h:a.length+b.length<=1000):fAdd (zal a) (zal b)=some (zal (a++b)):=by
 have ha:=zfG a;have hb:=zfG b;have hz:(a.map PyData.int).length+(b.map PyData.int).length<=sizeLine:=by
  have:sizeLine=16777216:=rfl
  simp;omega
 unfold zal;rw[<-ha,<-hb];simp only[fAdd,els,ze2];rw[if_pos hz,<-zfG,List.map_append,List.map_append,List.map_append]
theorem zdC:fEq false (.d (.str "none")) (.d (.str "none"))=some (.d (.bool true)):=by
 have:=zjY zhm
 unfold fEq at this ⊢;simp only[fz_d] at this ⊢
 revert this
 cases SeqAt.shaped (.str (Str.ofString "none"))<;>cases PyData.eqv (.str (Str.ofString "none")) (.str (Str.ofString "none"))<;>simp
namespace By
theorem zj6 {n k:Int} {rs:List Road} {r:Road} {w1 w2 w4 w5 w6 w7 w8 w9:O} (hr:za2 rs k=some r):(sAsg coe (eIx (eIx (zab 0) (eC (.int 1))) (zab 3)) (gtT (zau (gtN 4) (zau (gtN 5) (zau (gtN 6) zbZ))))) [.d (netD n rs),w1,w2,.d (.int k),w4,w5,w6,w7,w8,w9]=.nx [.d (netD n rs),w1,w2,.d (.int k),.d (.int r.1),.d (.int r.2.1),.d (.int r.2.2),w7,w8,w9]:=by
 have gn:=zf0 (n:=n) (rs:=rs) (ρ:=[.d (netD n rs),w1,w2,.d (.int k),w4,w5,w6,w7,w8,w9]) (j:=0) rfl;have gr:=zj3 hr;generalize netD n rs=Nd at *;simp[gn,gr,-zd2,-zcv,els,zar]
theorem b_a {N:PyData} {w2 w3 w5 w6 w7 w8 w9:O} {p s:Int} {ts:List O} {Fl:FC} (h:Fl [.d N,.d (.int p),.d (.int s)]=.ok (.t ts) []):(sAsg coe (zan [false,false,false] Fl (zae (zab 0) (zae (zab 1) (zae (zab 4) aNil)))) (gtN 7)) [.d N,.d (.int p),w2,w3,.d (.int s),w5,w6,w7,w8,w9]=.nx [.d N,.d (.int p),w2,w3,.d (.int s),w5,w6,.t ts,w8,w9]:=by
 exact (zaE (zaA (zad rfl (zad rfl (zad rfl rfl rfl) rfl) rfl) rfl h rfl rfl) rfl rfl)
theorem b_b {N:PyData} {w1 w3 w4 w6 w7 w8 w9:O} {q s:Int} {ts:List O} {Fl:FC} (h:Fl [.d N,.d (.int s),.d (.int q)]=.ok (.t ts) []):(sAsg coe (zan [false,false,false] Fl (zae (zab 0) (zae (zab 5) (zae (zab 2) aNil)))) (gtN 8)) [.d N,w1,.d (.int q),w3,w4,.d (.int s),w6,w7,w8,w9]=.nx [.d N,w1,.d (.int q),w3,w4,.d (.int s),w6,w7,.t ts,w9]:=by
 exact (zaE (zaA (zad rfl (zad rfl (zad rfl rfl rfl) rfl) rfl) rfl h rfl rfl) rfl rfl)
theorem b_if {w0 w1 w2 w3 w4 w5 w6 w9:O} {s t u:Str} {x y:List O} {a b:Bool} (h1:fEq false (.d (.str s)) (.d (.str u))=some (.d (.bool a))) (h2:fEq false (.d (.str t)) (.d (.str u))=some (.d (.bool b))) :
  ∃q,(gOr (tst (e2 (eIx (zab 7) (eC (.int 0))) (eC (.str u)) (fEq false))) (tst (e2 (eIx (zab 8) (eC (.int 0))) (eC (.str u)) (fEq false)))) [w0,w1,w2,w3,w4,w5,w6,.t (.d (.str s)::x),.t (.d (.str t)::y),w9]=.ok (a || b) [w0,w1,w2,w3,w4,w5,w6,.t (.d (.str s)::x),.t (.d (.str t)::y),w9] q:=by
 have g7:∀ρ:Rho,ρ[7]? = some (.t (.d (.str s)::x))->gIx ρ (.at 7 []) 0=some (.own (.d (.str s))):=fun ρ z=>by
  have:ixN (x.length+1) 0=some 0:=by unfold ixN;rw[if_pos (by omega),if_pos (by omega)];rfl
  simp[z,els,this]
 have g8:∀ρ:Rho,ρ[8]? = some (.t (.d (.str t)::y))->gIx ρ (.at 8 []) 0=some (.own (.d (.str t))):=fun ρ z=>by
  have:ixN (y.length+1) 0=some 0:=by unfold ixN;rw[if_pos (by omega),if_pos (by omega)];rfl
  simp[z,els,this]
 cases a
 .exact ⟨_,by simp[g7,g8,h1,h2,-zd2];rfl⟩
 .exact ⟨_,by simp[g7,g8,h1,h2,-zd2];rfl⟩
theorem zoU {w0 w1 w2 w4 w5 w6:O} {k:Int} {c d:PyData} {x y:O} {A B:List Int} (hl:A.length+B.length<=900):(sAsg coe (e2 (e2 (eIx (zab 7) (eC (.int 1))) (zaQ coes .l (zae (zab 3) aNil)) fAdd) (eIx (zab 8) (eC (.int 1))) fAdd) (gtN 9)) [w0,w1,w2,.d (.int k),w4,w5,w6,.t [.d c,zal A,x],.t [.d d,zal B,y],.z]=.nx [w0,w1,w2,.d (.int k),w4,w5,w6,.t [.d c,zal A,x],.t [.d d,zal B,y],zal (A++[k]++B)]:=by
 have a1:=zfe (a:=A) (b:=[k]) (by simp;omega);have a2:=zfe (a:=A++[k]) (b:=B) (by simp;omega);have g7:gIx [w0,w1,w2,.d (.int k),w4,w5,w6,.t [.d c,zal A,x],.t [.d d,zal B,y],.z] (.at 7 []) 1=some (.at 7 [1]):=rfl;have g8:gIx [w0,w1,w2,.d (.int k),w4,w5,w6,.t [.d c,zal A,x],.t [.d d,zal B,y],.z] (.at 8 []) 1=some (.at 8 [1]):=rfl;have v7:vn [w0,w1,w2,.d (.int k),w4,w5,w6,.t [.d c,zal A,x],.t [.d d,zal B,y],.z] (.at 7 [1])=some (zal A):=rfl;have v8:vn [w0,w1,w2,.d (.int k),w4,w5,w6,.t [.d c,zal A,x],.t [.d d,zal B,y],.z] (.at 8 [1])=some (zal B):=rfl;have p7:∀q,pok [w0,w1,w2,.d (.int k),w4,w5,w6,.t [.d c,zal A,x],.t [.d d,zal B,y],.z] q (.at 7 [1])=q:=fun q=>by simp[pok,vw,sub]
 have p8:∀q,pok [w0,w1,w2,.d (.int k),w4,w5,w6,.t [.d c,zal A,x],.t [.d d,zal B,y],.z] q (.at 8 [1])=q:=fun q=>by simp[pok,vw,sub]
 have a1':fAdd (zal A) (.l [.d (.int k)])=some (zal (A++[k])):=a1;unfold zal at *;generalize (A++[k]++B).map (fun h=>O.d (PyData.int h))=Z at *;generalize (A++[k]).map (fun h=>O.d (PyData.int h))=Y at *;exact (zaE (zax (zax (zbb rfl (zaN rfl rfl rfl) rfl g7) (zaK (zad rfl rfl rfl) rfl (Nat.le_of_ble_eq_true rfl) rfl) rfl rfl rfl a1') (zbb rfl (zaN rfl rfl rfl) rfl g8) rfl rfl rfl a2) rfl rfl)
theorem zos {N:PyData} {w1 w2 w3 w4 w5 w6 w7 w8:O} {L:Int} {os:List O} {Iw:PyData} {Fl:FC} (fo:fz (.l os)=some Iw) (h:Fl [.d N,.d Iw]=.ok (.d (.int L)) []):∃ρ',(sRet mov (zaQ movs mkT (zae (zan [false,false] Fl (zae (zab 0) (zae (zab 9) aNil))) (zae (zab 9) aNil)))) [.d N,w1,w2,w3,w4,w5,w6,w7,w8,.l os]=.rt (.t [.d (.int L),.l os]) ρ':=by
 have hm:mkT [.d (.int L),.l os]=.t [.d (.int L),.l os]:=rfl;exact ⟨_,by exact (zbm (zaK (zad (zbD (zad rfl (zad rfl rfl rfl) rfl) (zca rfl (zca (zkl rfl fo) rfl)) h rfl) (zad rfl rfl rfl) rfl) rfl (Nat.le_of_ble_eq_true rfl) rfl) rfl)⟩
end By
theorem zrB {n one other k:Int} {rs:List Road} {r:Road} (ok:zaL n rs) (T:Taut rs) (h1:0<=one/\one < n) (h2:0<=other/\other < n) (hr:za2 rs k=some r) :
  (((∀L,¬Wk rs one r.1 L)\/(∀L,¬Wk rs r.2.1 other L))/\zcJ [.d (netD n rs),.d (.int one),.d (.int other),.d (.int k)]=.ok (.d .none) [])\/
  (∃W a b,Dist rs one r.1 a/\Dist rs r.2.1 other b/\BW rs one other k (a+r.2.2+b) W/\zcJ [.d (netD n rs),.d (.int one),.d (.int other),.d (.int k)]=.ok (.t [.d (.int (a+r.2.2+b)),zal W]) []):=by
 obtain ⟨k0,k1,_⟩:=zbF hr;obtain ⟨r1,r2,_⟩:=ok.rd r (zcd hr);have c1:(zbQ (zan [false,false,false,false] zaW (zae (zab 0) (zae (zab 1) (zae (zab 2) (zae (zab 3) aNil)))))) [.d (netD n rs),.d (.int one),.d (.int other),.d (.int k),.z,.z,.z,.z,.z,.z]=.nx [.d (netD n rs),.d (.int one),.d (.int other),.d (.int k),.z,.z,.z,.z,.z,.z]:=by
  have:=ziO ok T h1 h2 ⟨k0,k1⟩
  generalize netD n rs=Nd at *;exact (zbv (zbD (zad rfl (zad rfl (zad rfl (zad rfl rfl rfl) rfl) rfl) rfl) rfl this rfl))
 have fin:∀o ρ',zfi [.d (netD n rs),.d (.int one),.d (.int other),.d (.int k),.z,.z,.z,.z,.z,.z]=.rt o ρ'->zcJ [.d (netD n rs),.d (.int one),.d (.int other),.d (.int k)]=.ok o []:=fun o ρ' h=>by
  refine Eq.trans ?_ (congrArg (Rc.ok _) (zsH ρ'));exact zhD (ms:=[false,false,false,false]) (n:=10) (S:=zfi) (os:=[.d (netD n rs),.d (.int one),.d (.int other),.d (.int k)]) h
 have non:∀(s t:Str) (x y:List O) (a b:Bool),zaF [.d (netD n rs),.d (.int one),.d (.int r.1)]=.ok (.t (.d (.str s)::x)) []->zaF [.d (netD n rs),.d (.int r.2.1),.d (.int other)]=.ok (.t (.d (.str t)::y)) []->fEq false (.d (.str s)) (.d (.str "none"))=some (.d (.bool a))->fEq false (.d (.str t)) (.d (.str "none"))=some (.d (.bool b))->(a || b)=true->zcJ [.d (netD n rs),.d (.int one),.d (.int other),.d (.int k)]=.ok (.d .none) []:=fun s t x y a b e1 e2 f1 f2 z=>by
  obtain ⟨q,tt⟩:=By.b_if (w0:=.d (netD n rs)) (w1:=.d (.int one)) (w2:=.d (.int other)) (w3:=.d (.int k)) (w4:=.d (.int r.1)) (w5:=.d (.int r.2.1)) (w6:=.d (.int r.2.2)) (w9:=.z) (x:=x) (y:=y) f1 f2;rw[z] at tt;exact fin _ _ (zaq c1 (zaq (By.zj6 hr) (zaq (By.b_a e1) (zaq (By.b_b e2) (zof ((zp1 tt).trans (zbm rfl rfl)))))))
 rcases zdy ok T h1 r1 with ⟨na,R,e1,_⟩ | ⟨A,ha,e1,la⟩
 .rcases zdy ok T r2 h2 with ⟨nb,R',e2,_⟩ | ⟨B,hb,e2,lb⟩
  .exact .inl ⟨.inl na,non _ _ _ _ _ _ e1 e2 zdC zdC rfl⟩
  .exact .inl ⟨.inl na,non _ _ _ _ _ _ e1 e2 zdC zdM rfl⟩
 .rcases zdy ok T r2 h2 with ⟨nb,R',e2,_⟩ | ⟨B,hb,e2,lb⟩
  .exact .inl ⟨.inr nb,non _ _ _ _ _ _ e1 e2 zdM zdC rfl⟩
  .have lA:=la.lW;have lB:=lb.lW;have bw:=zsu hr la lb;refine .inr ⟨A++[k]++B,_,_,la.ds,lb.ds,bw, ?_⟩;obtain ⟨q,tt⟩:=By.b_if (w0:=.d (netD n rs)) (w1:=.d (.int one)) (w2:=.d (.int other)) (w3:=.d (.int k)) (w4:=.d (.int r.1)) (w5:=.d (.int r.2.1)) (w6:=.d (.int r.2.2)) (w9:=.z) (x:=[zal A,zal ha]) (y:=[zal B,zal hb]) zdM zdM;have wl:=zd9 (n:=n) (rs:=rs) (ws:=A++[k]++B) (by simp;omega) (zgi bw.ld);rw[bw.ln] at wl;obtain ⟨ρ',rt⟩:=By.zos (w1:=.d (.int one)) (w2:=.d (.int other)) (w3:=.d (.int k)) (w4:=.d (.int r.1)) (w5:=.d (.int r.2.1)) (w6:=.d (.int r.2.2)) (w7:=.t [.d (.str "way"),zal A,zal ha]) (w8:=.t [.d (.str "way"),zal B,zal hb]) (zdY (A++[k]++B)) wl;exact fin _ _ (zaq c1 (zaq (By.zj6 hr) (zaq (By.b_a e1) (zaq (By.b_b e2) (zaq (zsm tt) (zaq (By.zoU (by omega)) rt))))))
theorem znZ {n:Nat} {s t:Tab} (hs:Shape n s) (ht:Shape n t) (h:∀i j,i < n->j < n->cell s i j=cell t i j):s=t:=by
 apply List.ext_getElem (hs.len.trans ht.len.symm);intro i h1 h2;have l1:=hs.row _ (List.getElem_mem h1);have l2:=ht.row _ (List.getElem_mem h2);apply List.ext_getElem (l1.trans l2.symm);intro j h3 h4
 have:=h i j (by rw[<-hs.len];exact h1) (by rw[<-l1];exact h3)
 unfold cell at this;simpa [h1,h2,h3,h4] using this
end My
namespace L2
open PySem PySem.Spec PyProof.Rows
def movp (ρ:Rho):Rv->Option (O×Rho)
 | .at i [k]=>match ρ[i]? with
  | some (.t os)=>match os[k]? with
   | some (.l ys)=>some (.l ys,ρ.set i (.t (os.set k .z)))
   | _=>mov ρ (.at i [k])
  | _=>mov ρ (.at i [k])
 | r=>mov ρ r
def zga (ρ:Rho):List Rv->Option (List O×Rho)
 | []=>some ([],ρ)
 | r::rs=>match movp ρ r with
  | some (o,ρ1)=>match zga ρ1 rs with
   | some (os,ρ2)=>some (o::os,ρ2)
   | none=>none
  | none=>none
section
variable {mg:Str->Option Value} {K:PySem.W.Frag} {H:Hp} {W:Addr->Prop} {σ:St} {ρ ρ':Rho} {f g:Fp}
theorem zpj {r:Rv} {v:V} {B:List Addr} {o:O} (s:Sl mg K H W σ ρ f) (sb:∀x,Inn f x->W x) (h:RvOk mg K H W σ v r B) (hB:∀x∈B,W x/\¬Inn f x) (e:movp ρ r=some (o,ρ')) :
  ∃W' f',Sl mg K H W' σ ρ' f'/\Gv W f W' f'/\∃B',Ow mg K H W' v o B'/\B'.Nodup/\∀x∈B',(x∈B\/Inn f x)/\W' x/\¬Inn f' x:=by
 unfold movp at e;split at e
 .rename_i i k;split at e
  .rename_i os hi;split at e
   .rename_i ys hk;cases e;obtain ⟨_,u,h1,h2⟩:=h;rcases s.sl i _ hi with ⟨z,_⟩ | ⟨v',g1,g2⟩
    .cases z
    .rw[h1] at g1;cases g1
     cases g2 with
     | @t a vs _ _ nw ha tt=>
      obtain ⟨w,A,Bs,e1,e2,e3,e4⟩:=tt.lend hk;obtain ⟨a',vs',w',ea,hv,ew,ee⟩:=h2;cases ea;have hvs:vs'=vs:=by rcases hv with hv | hv<;>rw[ha] at hv<;>cases hv<;>rfl
      subst hvs;rw[e1] at ew;cases ew
      cases (show w=v from ee)
      have nd:=e4.nodup_iff.mpr (s.fam.nd i);have nd':=List.nodup_append.mp nd;have inA:∀x∈A,x∈f i:=fun x hx=>e4.subset (List.mem_append_left _ hx)
      have inB:∀x∈Bs,x∈f i:=fun x hx=>e4.subset (List.mem_append_right _ hx)
      refine ⟨W,fset f i Bs,s.setS h1 (.t nw ha e3) nd'.2.1 (fun x hx j hj=>s.fam.ap i j (Ne.symm hj) x (inB x hx)),⟨fun _ h=>h,fun _ h=>.inr h,fun x h=>h.set.elim id fun z=>⟨i,inB x z⟩,fun x h=>sb x (h.set.elim id fun z=>⟨i,inB x z⟩)⟩,A,e2,nd'.1,fun x hx=>⟨.inr ⟨i,inA x hx⟩,sb x ⟨i,inA x hx⟩,fun ⟨j,hj⟩=>?_⟩⟩
      by_cases ej:j=i
      .subst ej;rw[zbt] at hj;exact nd'.2.2 x hx x hj rfl
      .rw[zbU ej] at hj;exact s.fam.ap j i ej x hj (inA x hx)
   .exact zit s sb h hB e
  .exact zit s sb h hB e
 .exact zit s sb h hB e
theorem zjz:∀{rs:List Rv} {vs:List V} {W:Addr->Prop} {ρ ρ':Rho} {f g:Fp} {os:List O},Sl mg K H W σ ρ f->(∀x,Inn f x->W x)->Rvs mg K H W σ vs rs g->(∀x,Inn g x->W x/\¬Inn f x)->zga ρ rs=some (os,ρ')->
  ∃W' f',Sl mg K H W' σ ρ' f'/\Gv W f W' f'/\∃As,Ows mg K H W' vs os As/\As.Nodup/\∀x∈As,(Inn g x\/Inn f x)/\W' x/\¬Inn f' x
 | [],vs,W,ρ,ρ',f,g,os,s,sb,h,hg,e=>by
  cases e
  cases vs with
  | nil=>exact ⟨W,f,s,.refl sb,[],.nil,List.nodup_nil,fun _ z=>nomatch z⟩
  | cons v vs=>have:=h.len;simp at this
 | r::rs,vs,W,ρ,ρ',f,g,os,s,sb,h,hg,e=>by
  obtain ⟨v,us,rfl,h0,ht⟩:=h.tail;rw[zga] at e
  cases a:movp ρ r with
  | none=>rw[a] at e;cases e
  | some z=>
   obtain ⟨o,ρ1⟩:=z;rw[a] at e;dsimp only at e
   cases b:zga ρ1 rs with
   | none=>rw[b] at e;cases e
   | some z=>
    obtain ⟨os',ρ2⟩:=z;rw[b] at e;cases e;obtain ⟨W1,f1,s1,g1,B,o1,nd1,in1⟩:=zpj s sb h0 (fun x hx=>hg x ⟨0,hx⟩) a;have hg1:∀x,Inn g x->W1 x/\¬Inn f1 x:=fun x hx=>⟨(g1.more x (hg x hx).1).resolve_left (hg x hx).2,fun z=>(hg x hx).2 (g1.ours x z)⟩
    obtain ⟨W2,f2,s2,g2,As,o2,nd2,in2⟩:=zjz s1 g1.sub (ht.weak g1.less) (fun x ⟨k,hk⟩=>hg1 x ⟨k+1,hk⟩) b;refine ⟨W2,f2,s2,g1.trans g2,B++As,.cons (o1.on (DMv.weak g2.less) fun _ _=>rfl) o2,List.nodup_append.mpr ⟨nd1,nd2,fun x hx y hy z=>?_⟩,fun x hx=>?_⟩
    .subst z;rcases (in2 x hy).1 with ⟨k,hk⟩ | q
     .rcases (in1 x hx).1 with r | r
      .exact h.fam.ap 0 (k+1) (by omega) x r hk
      .exact (hg x ⟨k+1,hk⟩).2 r
     .exact (in1 x hx).2.2 q
    .rcases List.mem_append.mp hx with hx | hx
     .obtain ⟨q1,q2,q3⟩:=in1 x hx;exact ⟨q1.imp (fun z=>⟨0,z⟩) id,(g2.more x q2).resolve_left q3,fun z=>q3 (g2.ours x z)⟩
     .obtain ⟨q1,q2,q3⟩:=in2 x hx;exact ⟨q1.elim (fun ⟨k,hk⟩=>.inl ⟨k+1,hk⟩) fun z=>.inr (g1.ours x z),q2,q3⟩
theorem ziD:Take zga:=@zjz
end
section
variable {mg:Str->Option Value} {K:PySem.W.Frag} {H:Hp} {W:Addr->Prop}
end
section
variable {mg:Str->Option Value} {K:PySem.W.Frag} {E:XK}
end
section
variable {X:Cx} {E:XK} {L:List Nat} {scope:Scope} {pos:Pos} {N':List Str}
end
section
variable {mg:Str->Option Value} {K:PySem.W.Frag} {E:XK}
end
section
variable {X:Cx} {E:XK} {L:List Nat} {scope:Scope} {pos:Pos} {N':List Str}
end
end L2
noncomputable section
namespace My
open PySem L2
def ze8:SF:=(sSeq (zbQ (zan [false] za7 (zae (zab 0) aNil)))
  (sSeq (zbQ (zan [false,false] zbK (zae (zab 0) (zae (zab 1) aNil))))
  (sSeq (zbQ (zan [false] zbf (zae (zab 0) aNil)))
  (sSeq (sAsg coe (eIx (eIx (zab 0) (eC (.int 1))) (zab 1)) (gtT (zau (gtN 2) (zau (gtN 3) (zau (gtN 4) zbZ)))))
  (sSeq (sAsg coe (zan [false,false,false] zaF (zae (zab 0) (zae (zab 3) (zae (zab 2) aNil)))) (gtN 5))
  (sSeq (sIf (tst (e2 (eIx (zab 5) (eC (.int 0))) (eC (.str "none")) (fEq false))) (sRet mov (zaQ zga mkT (zae (eC (.str "free")) (zae (eIx (zab 5) (eC (.int 1))) aNil)))) sNil)
  (sSeq (sAsg coe (e2 (zaQ coes .l (zae (zab 1) aNil)) (eIx (zab 5) (eC (.int 1))) fAdd) (gtN 6))
  (sRet mov (zaQ zga mkT (zae (eC (.str "fall")) (zae (zan [false,false] zbc (zae (zab 0) (zae (zab 6) aNil))) (zae (zab 6) (zae (eIx (zab 5) (eC (.int 2))) aNil)))))))))))))
def zbe:FC:=runF [false,false] 7 ze8
end My
end
namespace My
open PySem L2
theorem zoe {ds:List PyData} {a:Int} (h0:0<=a) (h1:a<=ds.length):fSl (.l (ds.map O.d)) none (some a)=some (.l ((ds.take a.toNat).map O.d)):=by
 have e:HT.sIx ds.length ds.length (some a)=a.toNat:=by
  show (if a < 0 then (a+(ds.length:Int)).toNat else min a.toNat ds.length)=a.toNat
  rw[if_neg (by omega)];omega
 have e0:HT.sIx ds.length 0 none=0:=rfl;unfold fSl;simp only[els,ze2];unfold cutD;rw[e,e0,List.drop_zero,Nat.sub_zero]
theorem zoA {ds:List PyData} {a:Int} (h0:0<=a) (h1:a<=ds.length):fSl (.l (ds.map O.d)) (some a) none=some (.l ((ds.drop a.toNat).map O.d)):=by
 have e:HT.sIx ds.length 0 (some a)=a.toNat:=by
  show (if a < 0 then (a+(ds.length:Int)).toNat else min a.toNat ds.length)=a.toNat
  rw[if_neg (by omega)];omega
 have e0:HT.sIx ds.length ds.length none=ds.length:=rfl;unfold fSl;simp only[els,ze2];unfold cutD;rw[e,e0]
 congr 3
 apply List.take_of_length_le;rw[List.length_drop];omega
theorem zo8 {a b:List PyData} (h:a.length+b.length<=1000):fAdd (.l (a.map O.d)) (.l (b.map O.d))=some (.l ((a++b).map O.d)):=by
 have z:a.length+b.length<=sizeLine:=zbR (by omega);unfold fAdd;dsimp only[els];rw[ze2,ze2];dsimp only;rw[if_pos z]
theorem zhC (rs:List Road):zbM rs=.l ((rs.map zar).map O.d):=by
 unfold zbM;rw[List.map_map];rfl
namespace F24
theorem zod (ρ:Rho):zc4 [false,false] ρ=[]:=by
 cases ρ with
 | nil=>rfl
 | cons a ρ=>cases ρ<;>rfl
theorem zrJ {w0 w1 w2 w3 w4 w6:O} {os:List O} (nn:fEq false (.d (.str "none")) (.d (.str "none"))=some (.d (.bool true))) :
  (sIf (tst (e2 (eIx (zab 5) (eC (.int 0))) (eC (.str "none")) (fEq false))) (sRet mov (zaQ zga mkT (zae (eC (.str "free")) (zae (eIx (zab 5) (eC (.int 1))) aNil)))) sNil) [w0,w1,w2,w3,w4,.t [.d (.str "none"),.l os],w6]=.rt (.t [.d (.str "free"),.l os]) [w0,w1,w2,w3,w4,.t [.d (.str "none"),.z],w6]:=by
 exact if_t (za4 (zax (zbb rfl (zaN rfl rfl rfl) rfl rfl) rfl rfl rfl rfl nn) rfl) (zbm (zaK (zad rfl (zad (zbb rfl (zaN rfl rfl rfl) rfl rfl) rfl rfl) rfl) rfl (Nat.le_of_ble_eq_true rfl) rfl) rfl)
theorem zoU {w0 w1 w2 w3 w4 w6 x y:O} (nn:fEq false (.d (.str "way")) (.d (.str "none"))=some (.d (.bool false))) :
  (sIf (tst (e2 (eIx (zab 5) (eC (.int 0))) (eC (.str "none")) (fEq false))) (sRet mov (zaQ zga mkT (zae (eC (.str "free")) (zae (eIx (zab 5) (eC (.int 1))) aNil)))) sNil) [w0,w1,w2,w3,w4,.t [.d (.str "way"),x,y],w6]=.nx [w0,w1,w2,w3,w4,.t [.d (.str "way"),x,y],w6]:=
 if_f (za4 (zax (zbb rfl (zaN rfl rfl rfl) rfl rfl) rfl rfl rfl rfl nn) rfl) rfl
theorem zri {w0 w2 w3 w4 y:O} {k:Int} {os us:List O} (fa:fAdd (.l [.d (.int k)]) (.l os)=some (.l us)) :
  (sAsg coe (e2 (zaQ coes .l (zae (zab 1) aNil)) (eIx (zab 5) (eC (.int 1))) fAdd) (gtN 6)) [w0,.d (.int k),w2,w3,w4,.t [.d (.str "way"),.l os,y],.z]=.nx [w0,.d (.int k),w2,w3,w4,.t [.d (.str "way"),.l os,y],.l us]:=
 zaE (zax (zaK (zad rfl rfl rfl) rfl (Nat.le_of_ble_eq_true rfl) rfl) (zbb rfl (zaN rfl rfl rfl) rfl rfl) rfl rfl rfl fa) rfl rfl
theorem zos {N Iw:PyData} {w1 w2 w3 w4:O} {L:Int} {os us hs:List O} {Fw:FC} (fu:fz (.l us)=some Iw) (h:Fw [.d N,.d Iw]=.ok (.d (.int L)) []) :
  (sRet mov (zaQ zga mkT (zae (eC (.str "fall")) (zae (zan [false,false] Fw (zae (zab 0) (zae (zab 6) aNil))) (zae (zab 6) (zae (eIx (zab 5) (eC (.int 2))) aNil)))))) [.d N,w1,w2,w3,w4,.t [.d (.str "way"),.l os,.l hs],.l us]=.rt (.t [.d (.str "fall"),.d (.int L),.l us,.l hs]) [.d N,w1,w2,w3,w4,.t [.d (.str "way"),.l os,.z],.z]:=by
 exact zbm (zaK (zad rfl (zad (zbD (zad rfl (zad rfl rfl rfl) rfl) (zca rfl (zca (zkl rfl fu) rfl)) h rfl) (zad rfl (zad (zbb rfl (zaN rfl rfl rfl) rfl rfl) rfl rfl) rfl) rfl) rfl) rfl (Nat.le_of_ble_eq_true rfl) rfl) rfl
theorem zj6 {n k:Int} {rs:List Road} {r:Road} {w2 w3 w4 w5 w6:O} (hr:za2 rs k=some r):(sAsg coe (eIx (eIx (zab 0) (eC (.int 1))) (zab 1)) (gtT (zau (gtN 2) (zau (gtN 3) (zau (gtN 4) zbZ))))) [.d (netD n rs),.d (.int k),w2,w3,w4,w5,w6]=.nx [.d (netD n rs),.d (.int k),.d (.int r.1),.d (.int r.2.1),.d (.int r.2.2),w5,w6]:=by
 have gn:=zf0 (n:=n) (rs:=rs) (ρ:=[.d (netD n rs),.d (.int k),w2,w3,w4,w5,w6]) (j:=0) rfl;have gr:=zj3 hr;generalize netD n rs=Nd at *;simp[gn,gr,-zd2,-zcv,els,zar]
theorem zle {N:PyData} {w1 w4 w5 w6:O} {p q:Int} {ts:List O} {Fl:FC} (h:Fl [.d N,.d (.int q),.d (.int p)]=.ok (.t ts) []):(sAsg coe (zan [false,false,false] Fl (zae (zab 0) (zae (zab 3) (zae (zab 2) aNil)))) (gtN 5)) [.d N,w1,.d (.int p),.d (.int q),w4,w5,w6]=.nx [.d N,w1,.d (.int p),.d (.int q),w4,.t ts,w6]:=
 zaE (zaA (zad rfl (zad rfl (zad rfl rfl rfl) rfl) rfl) rfl h rfl rfl) rfl rfl
theorem zlP {n k:Int} {rs:List Road} {r:Road} (ok:zaL n rs) (T:Taut rs) (hr:za2 rs k=some r) :
  ((∀M,¬Wk rs r.2.1 r.1 M)/\∃R,zbe [.d (netD n rs),.d (.int k)]=.ok (.t [.d (.str "free"),zal (zd4 R)]) []/\Rch n rs r.2.1 R)\/
  (∃W hs,LW n rs r.2.1 r.1 W hs/\zbe [.d (netD n rs),.d (.int k)]=.ok (.t [.d (.str "fall"),.d (.int (r.2.2+za0 rs W)),zal (k::W),zal hs]) []):=by
 obtain ⟨k0,k1,_⟩:=zbF hr;obtain ⟨r1,r2,_⟩:=ok.rd r (zcd hr);have c1:=zc6 ok;have c2:=zfu (n:=n) (rs:=rs) (k:=k) ⟨k0,k1⟩;have c3:=zdp ok T;have b4:=fun w2 w3 w4 w5 w6=>zj6 (n:=n) (w2:=w2) (w3:=w3) (w4:=w4) (w5:=w5) (w6:=w6) hr
 have fin:∀o ρ',(sSeq (sAsg coe (zan [false,false,false] zaF (zae (zab 0) (zae (zab 3) (zae (zab 2) aNil)))) (gtN 5))
  (sSeq (sIf (tst (e2 (eIx (zab 5) (eC (.int 0))) (eC (.str "none")) (fEq false))) (sRet mov (zaQ zga mkT (zae (eC (.str "free")) (zae (eIx (zab 5) (eC (.int 1))) aNil)))) sNil)
  (sSeq (sAsg coe (e2 (zaQ coes .l (zae (zab 1) aNil)) (eIx (zab 5) (eC (.int 1))) fAdd) (gtN 6))
  (sRet mov (zaQ zga mkT (zae (eC (.str "fall")) (zae (zan [false,false] zbc (zae (zab 0) (zae (zab 6) aNil))) (zae (zab 6) (zae (eIx (zab 5) (eC (.int 2))) aNil))))))))) [.d (netD n rs),.d (.int k),.d (.int r.1),.d (.int r.2.1),.d (.int r.2.2),.z,.z]=.rt o ρ'->zbe [.d (netD n rs),.d (.int k)]=.ok o []:=fun o ρ' h=>by
  refine Eq.trans ?_ (congrArg (Rc.ok _) (zod ρ'));refine zhD (ms:=[false,false]) (n:=7) (S:=ze8) (os:=[.d (netD n rs),.d (.int k)]) ?_;generalize netD n rs=Nd at *;exact zaq (zbv (zbD (zad rfl rfl rfl) rfl c1 rfl)) (zaq (zbv (zbD (zad rfl (zad rfl rfl rfl) rfl) rfl c2 rfl)) (zaq (zbv (zbD (zad rfl rfl rfl) rfl c3 rfl)) (zaq (b4 _ _ _ _ _) h)))
 rcases zdy ok T r2 r1 with ⟨no,R,e1,hR⟩ | ⟨W,hs,e1,lw⟩
 .exact .inl ⟨no,R,fin _ _ (zaq (zle e1) (zfY (zrJ zdC))),hR⟩
 .have lW:=lw.lW;have ld:zbC rs r.1 r.1 (k::W)=true:=by
   have:=zeB (zgk hr) lw.ld
   exact this
  have wl:=zd9 (n:=n) (rs:=rs) (ws:=k::W) (by simp;omega) (zgi ld);have e2:za0 rs (k::W)=r.2.2+za0 rs W:=by rw[zcU,zea hr]
  have fa:=zfe (a:=[k]) (b:=W) (by simp;omega);rw[e2] at wl;exact .inr ⟨W,hs,lw,fin _ _ (zaq (zle e1) (zaq (zoU zdM) (zaq (zri fa) (zos (zdY (k::W)) wl))))⟩
theorem zmH {ds:List PyData} {a:Int} (h0:0<=a) (h1:a<=ds.length):fSl (.d (.list ds)) none (some a)=some (.l ((ds.take a.toNat).map O.d)):=zoe h0 h1
theorem zmn {ds:List PyData} {a:Int} (h0:0<=a) (h1:a<=ds.length):fSl (.d (.list ds)) (some a) none=some (.l ((ds.drop a.toNat).map O.d)):=zoA h0 h1
theorem zfr {js:List (Option Nat)} {G:GF} {T:TF} {A:EF} {x o:O} {xs acc os:List O} {ρ ρ1 ρ2 ρ3 ρ4 ρ':Rho} {r:Rv} {q q2 q3 q':Bool} (hg:G x (zex js ρ)=some ρ1) (ht:T ρ1=.ok true ρ2 q2) (ha:A ρ2=.ok r ρ3 q3) (hc:coe ρ3 r=some (o,ρ4)) (k:lcF js G T A xs (zdb js ρ4 (clrR js ρ)) (acc++[o]) (q&&q2&&q3)=.ok os ρ' q'):lcF js G T A (x::xs) ρ acc q=.ok os ρ' q':=by
 rw[lcF,hg];dsimp only;rw[ht];dsimp only;rw[if_pos rfl,ha];dsimp only;rw[hc];exact k
theorem zjW {I:Rho->Re (Src×Bool)} {js:List (Option Nat)} {G:GF} {T:TF} {A:EF} {ρ ρ1 ρ2 ρ3:Rho} {items os:List O} {rs:Option (Nat×O)} {kd q1 q2:Bool} (h:I ρ=.ok ((items,rs),kd) ρ1 q1) (hl:items.length<=sizeLine) (k:lcF js G T A items ρ1 [] true=.ok os ρ2 q2) (hr:ziT rs ρ2=ρ3):eLS I js G T A ρ=.ok (.own (.l os)) ρ3 (q1&&q2):=by
 unfold eLS;rw[h];dsimp only;rw[if_pos hl,k];dsimp only;rw[hr]
end F24
end My
namespace L2
open PySem PySem.Spec PyProof.Rows
section
variable {mg:Str->Option Value} {K:PySem.W.Frag} {H H2:Hp} {W W2:Addr->Prop} {σ σ2:St} {ρ:Rho} {f f2:Fp}
end
section
variable {X:Cx} {E:XK} {L L':List Nat}
end
section
variable {mg:Str->Option Value} {K:PySem.W.Frag} {E:XK}
end
section
variable {X:Cx} {E:XK} {L:List Nat} {scope:Scope} {pos:Pos} {N':List Str}
end
end L2
noncomputable section
namespace My
open PySem L2
def zgK:SF:=(sSeq (sAsg coe (zab 0) (gtT (zau (gtN 2) (zau (gtN 3) zbZ))))
  (sRet coe (zaQ coes mkT (zae (zab 2) (zae (e2 (eSl (zab 3) oNo (zh9 (zab 1))) (eSl (zab 3) (zh9 (e2 (zab 1) (eC (.int 1)) fAdd)) oNo) fAdd) aNil)))))
def zd5:FC:=runF [false,false] 4 zgK
def zgA:SF:=(sRet coe (zaQ coes mkT (zae (eIx (zab 0) (eC (.int 0))) (zae (e2 (eSl (eIx (zab 0) (eC (.int 1))) oNo (zh9 (zab 1))) (eSl (eIx (zab 0) (eC (.int 1))) (zh9 (e2 (zab 1) (eC (.int 1)) fAdd)) oNo) fAdd) aNil))))
def zeD:FC:=runF [false,false] 2 zgA
end My
end
namespace My
open PySem L2
namespace F29
theorem zmD {A:EF} {L U:Rho->Re (Option Int)} {ρ ρ1 ρ2 ρ3:Rho} {ra:Rv} {q1 q2 q3:Bool} {l u:Option Int} {o z:O} (h:A ρ=.ok ra ρ1 q1) (hl:L ρ1=.ok l ρ2 q2) (hu:U ρ2=.ok u ρ3 q3) (p:pok ρ1 (q2&&(q3&&true)) ra=true) (hv:vn ρ3 ra=some o) (hf:fSl o l u=some z) :
  eSl A L U ρ=.ok (.own z) ρ3 (q1&&(q2&&(q3&&true))):=by
 unfold eSl;rw[h];dsimp only[Re.bind];rw[zdh hl (zdh hu rfl)];dsimp only;rw[if_pos p,hv];dsimp only;rw[hf]
theorem zhj {A:EF} {ρ ρ1:Rho} {q:Bool} {i:Int} (h:eSc decI A ρ=.ok i ρ1 q):zh9 A ρ=.ok (some i) ρ1 (q&&true):=zdh h rfl
theorem zis {A:EF} {ρ ρ1:Rho} {q:Bool} {o:O} {x:PyData} (h:A ρ=.ok (.own o) ρ1 q) (f:fz o=some x):eFz A ρ=.ok (.own (.d x)) ρ1 q:=by unfold eFz;rw[h];dsimp only;rw[f]
def zfl (rs:List Road) (k:Nat):List Road:=rs.take k++rs.drop (k+1)
theorem zh3 {rs:List Road} {k:Nat} {r:Road} (h:r∈zfl rs k):r∈rs:=(List.mem_append.mp h).elim List.mem_of_mem_take List.mem_of_mem_drop
theorem znb {n:Int} {rs:List Road} (ok:zaL n rs) (k:Nat):zaL n (zfl rs k):=⟨ok.n0,ok.n1,by have:=ok.len;unfold zfl;simp;omega,fun r hr=>ok.rd r (zh3 hr)⟩
theorem zki {rs:List Road} (T:Taut rs) (k:Nat):Taut (zfl rs k):=fun p L w=>T p L (w.sub fun r hr=>zh3 hr)
theorem zpI {n:Int} {rs:List Road} {a:Int} (a0:0<=a):netO n (zfl rs a.toNat)=.t [.d (.int n),.l (((rs.map zar).take a.toNat++(rs.map zar).drop (a+1).toNat).map O.d)]:=by
 unfold netO;rw[zhC];unfold zfl
 have:(a+1).toNat=a.toNat+1:=by omega
 rw[this,List.map_append,List.map_take,List.map_drop]
section
variable {n k:Int} {ds:List PyData} {as bs cs:List O}
theorem zpL (s1:fSl (.d (.list ds)) none (some k)=some (.l as)) (s2:fSl (.d (.list ds)) (some (k+1)) none=some (.l bs)) (ad:fAdd (.l as) (.l bs)=some (.l cs)):zd5 [.d (.tuple [.int n,.list ds]),.d (.int k)]=.ok (.t [.d (.int n),.l cs]) []:=
 zbX rfl (zaq (zaE rfl rfl rfl) (zbm (zaK (zad rfl (zad (zax (zmD rfl rfl (zhj (zaN rfl rfl rfl)) rfl rfl s1) (zmD rfl (zhj (zaN (zax rfl rfl rfl rfl rfl rfl) rfl rfl)) rfl rfl rfl s2) rfl rfl rfl ad) rfl rfl) rfl) rfl (Nat.le_of_ble_eq_true rfl) rfl) rfl)) rfl
theorem zo5 (s1:fSl (.d (.list ds)) none (some k)=some (.l as)) (s2:fSl (.d (.list ds)) (some (k+1)) none=some (.l bs)) (ad:fAdd (.l as) (.l bs)=some (.l cs)):zeD [.d (.tuple [.int n,.list ds]),.d (.int k)]=.ok (.t [.d (.int n),.l cs]) []:=
 zbX rfl (zbm (zaK (zad (zbb rfl (zaN rfl rfl rfl) rfl rfl) (zad (zax (zmD (zbb rfl (zaN rfl rfl rfl) rfl rfl) rfl (zhj (zaN rfl rfl rfl)) rfl rfl s1) (zmD (zbb rfl (zaN rfl rfl rfl) rfl rfl) (zhj (zaN (zax rfl rfl rfl rfl rfl rfl) rfl rfl)) rfl rfl rfl s2) rfl rfl rfl ad) rfl rfl) rfl) rfl (Nat.le_of_ble_eq_true rfl) rfl) rfl) rfl
end
theorem zov {n k:Int} {rs:List Road} (hl:rs.length<=60) (hk:0<=k/\k < rs.length):zd5 [.d (netD n rs),.d (.int k)]=.ok (netO n (zfl rs k.toNat)) []/\zeD [.d (netD n rs),.d (.int k)]=.ok (netO n (zfl rs k.toNat)) []:=by
 have rl:(rs.map zar).length=rs.length:=by simp
 have s1:=F24.zmH (ds:=rs.map zar) (a:=k) hk.1 (by rw[rl];omega);have s2:=F24.zmn (ds:=rs.map zar) (a:=k+1) (by omega) (by rw[rl];omega);have ad:fAdd (.l (((rs.map zar).take k.toNat).map O.d)) (.l (((rs.map zar).drop (k+1).toNat).map O.d))=some (.l (((rs.map zar).take k.toNat++(rs.map zar).drop (k+1).toNat).map O.d)):=by
  have z:((rs.map zar).take k.toNat).length+((rs.map zar).drop (k+1).toNat).length<=sizeLine:=zbR (by simp;omega);unfold fAdd;dsimp only[els];rw[ze2,ze2];dsimp only;rw[if_pos z,List.map_append]
 rw[zpI hk.1];unfold netD zbr;exact ⟨zpL s1 s2 ad,zo5 s1 s2 ad⟩
def onI (f:Int->Int):O->O
 | .d (.int x)=>.d (.int (f x))
 | o=>o
theorem zn0 (f:Int->Int) (W:List Int):((W.map PyData.int).map O.d).map (onI f)=(W.map f).map fun h=>O.d (.int h):=by
 rw[List.map_map,List.map_map,List.map_map];rfl
theorem zdc (xs:List O):(xs.filter fun _=>true)=xs:=List.filter_eq_self.mpr fun _ _=>rfl
section
variable {N S:PyData} {p q k:Int} {so os hs us:List O} {Fc Fs Fl:FC} {t:Bool}
end
section
variable {N:PyData} {p q:Int} {to:List O} {Ft Fr Fw Fi Fo Fl Fh:FC} {c L x y:Int}
end
end F29
def byC (c:Option Int) (l:Int) (d:Option Int):Option Int:=match c,d with
 | some a,some b=>some (a+l+b)
 | _,_=>none
theorem znE (c:Option Int):oD c=optD c:=by cases c<;>rfl
theorem zkV (r:List (Option Int)):fIn false (.d .none) (.d (rowD r))=some (.d (.bool (decide (none∈r)))):=by
 have h:=zkw r;unfold rowD at h ⊢;unfold fIn;rw[fz_d,fz_d];dsimp only;rw[h,zmE];exact rfl
theorem znO (c d:Option Int) (l:Int):zb1 [.l [.d (oD c),.d (.int l),.d (oD d)]]=.ok (.d (oD (byC c l d))) []:=by
 have fzr:fz (.l [.d (oD c),.d (.int l),.d (oD d)])=some (rowD [c,some l,d]):=by rw[znE,znE];rfl
 have fi:fIn false (.d .none) (.l [.d (oD c),.d (.int l),.d (oD d)])=some (.d (.bool (decide (none∈[c,some l,d])))):=by
  rw[<-zkV [c,some l,d]];unfold fIn;rw[fzr,fz_d (rowD [c,some l,d])]
 unfold zb1 zdT
 cases c with
 | none=>
  have z:decide (none∈[none,some l,d])=true:=by simp
  rw[z] at fi;generalize [O.d (oD none),.d (.int l),.d (oD d)]=R at *;exact (zbX rfl (zfY (if_t (za4 (zax rfl rfl rfl rfl rfl fi) rfl) (zbm rfl rfl))) rfl)
 | some a=>cases d with
  | none=>
   have z:decide (none∈[some a,some l,none])=true:=by simp
   rw[z] at fi;generalize [O.d (oD (some a)),.d (.int l),.d (oD none)]=R at *;exact (zbX rfl (zfY (if_t (za4 (zax rfl rfl rfl rfl rfl fi) rfl) (zbm rfl rfl))) rfl)
  | some b=>
   have z:decide (none∈[some a,some l,some b])=false:=by simp
   have zs:fSum (.l [.d (oD (some a)),.d (.int l),.d (oD (some b))])=some (.d (.int (a+l+b))):=by
    have:zsOf (.l [.d (oD (some a)),.d (.int l),.d (oD (some b))])=some [a,l,b]:=rfl
    unfold fSum;rw[this];simp;omega
   rw[z] at fi;generalize [O.d (oD (some a)),.d (.int l),.d (oD (some b))]=R at *;exact (zbX rfl (zaq (if_f (za4 (zax rfl rfl rfl rfl rfl fi) rfl) rfl) (zbm (zkH (zad rfl rfl rfl) rfl zs) rfl)) rfl)
namespace K28
end K28
end My
namespace L2
open PySem PySem.Spec PyProof.Rows
section
variable {mg:Str->Option Value} {K:PySem.W.Frag} {E:XK} {L:List Nat}
end
section
variable {X:Cx} {E:XK} {L:List Nat}
end
section
variable {mg:Str->Option Value} {K:PySem.W.Frag} {H H2:Hp} {W W2:Addr->Prop} {σ:St} {ρ:Rho} {f f2:Fp}
end
end L2
noncomputable section
namespace My
open PySem L2
def zeX:SF:=(sIf (tst (e2 (zan [false] zb1 (zae (zaQ coes .l (zae (eIx (eIx (zab 3) (zab 1)) (zab 7)) (zae (zab 9) (zae (eIx (eIx (zab 3) (zab 8)) (zab 2)) aNil)))) aNil)) (zab 4) (fEq false))) (zbQ (eApp (zab 5) (zab 6))) sNil)
def zdK:SF:=(sSeq (zbQ (zan [false,false,false] zaS (zae (zab 0) (zae (zab 1) (zae (zab 2) aNil)))))
  (sSeq (sAsg coe (zan [false] zaG (zae (zab 0) aNil)) (gtN 3))
  (sSeq (sAsg coe (eIx (eIx (zab 3) (zab 1)) (zab 2)) (gtN 4))
  (sSeq (sIf (tst (e2 (zab 4) (eC .none) (fIs false))) (sRet mov (zaQ movs .l aNil)) sNil)
  (sSeq (sAsg coe (zaQ coes .l aNil) (gtN 5))
  (sSeq (sFor (itE (eIx (zab 0) (eC (.int 1)))) (gtT (zau (gtN 6) (zau (gtT (zau (gtN 7) (zau (gtN 8) (zau (gtN 9) zbZ)))) zbZ))) zeX)
  (sRet mov (zab 5))))))))
def zdO:FC:=runF [false,false,false] 10 zdK
def zdm:SF:=(sSeq (sAsg coe (eIx (zan [false,false] zbg (zae (eFz (zan [false,false] zd5 (zae (zab 0) (zae (zab 6) aNil)))) (zae (zab 1) aNil))) (zab 2)) (gtN 7))
  (sIf (tst (e2 (zab 7) (eC .none) (fIs false))) (zbQ (eApp (zab 5) (zaQ coes mkT (zae (zab 6) (zae (eC .none) aNil))))) (sIf (tst (e2 (zab 7) (zab 4) fGt)) (zbQ (eApp (zab 5) (zaQ coes mkT (zae (zab 6) (zae (e2 (zab 7) (zab 4) fSub) aNil))))) sNil)))
def zcX:SF:=(sSeq (sAsg coe (zan [false,false,false] zdO (zae (zab 0) (zae (zab 1) (zae (zab 2) aNil)))) (gtN 3))
  (sSeq (sAsg coe (eIx (zan [false,false] zbg (zae (zab 0) (zae (zab 1) aNil))) (zab 2)) (gtN 4))
  (sSeq (sAsg coe (zaQ coes .l aNil) (gtN 5))
  (sSeq (zhO (srcM false (fun ds=>ds.map O.d) (zab 3)) (gtN 6) zdm)
  (sRet mov (zab 5))))))
def zc2:FC:=runF [false,false,false] 8 zcX
def zey:EF:=(zab 0)
def zft:SF:=(sRet coe (eLS (srcM false (fun ds=>ds.map O.d) (zan [false,false,false] zc2 (zae (zab 0) (zae (zab 1) (zae (zab 2) aNil))))) [none,none] (gtT (zau (gtN 0) (zau (gtN 1) zbZ))) (gRet true) zey))
def za6:FC:=runF [false,false,false] 3 zft
end My
end
namespace My
open PySem L2
namespace F30
def cel (n:Int) (rs:List Road) (p q:Int):Option Int:=cell (zaP n.toNat rs) p.toNat q.toNat
def zf4 (n:Int) (rs:List Road) (one other:Int) (i:Nat):Bool:=match rs[i]? with
 | some r=>decide (byC (cel n rs one r.1) r.2.2 (cel n rs r.2.1 other)=cel n rs one other)
 | none=>false
def zdB (n:Int) (rs:List Road) (one other:Int) (m:Nat):List Int:=((List.range m).filter (zf4 n rs one other)).map fun i:Nat=>(i:Int)
def zbw (n:Int) (rs:List Road) (one other:Int):List Int:=if cel n rs one other=none then [] else zdB n rs one other rs.length
theorem zjg {n:Int} {rs:List Road} {one other:Int} {i:Nat}:zdB n rs one other (i+1)=if zf4 n rs one other i=true then zdB n rs one other i++[(i:Int)] else zdB n rs one other i:=by
 unfold zdB;rw[List.range_succ,List.filter_append,List.map_append]
 cases h:zf4 n rs one other i<;>simp[h]
theorem zha (n:Int) (rs:List Road) (one other:Int) (m:Nat):(zdB n rs one other m).length<=m:=by
 unfold zdB;rw[List.length_map];exact Nat.le_trans (List.length_filter_le _ _) (by simp)
theorem zrk (a b:Option Int):fEq false (.d (oD a)) (.d (oD b))=some (.d (.bool (decide (a=b)))):=by
 cases a with
 | none=>cases b<;>simp[oD,fEq,SeqAt.shaped,PyData.canLay0,PyData.depth,PyData.eqv]
 | some a=>cases b with
  | none=>simp[oD,fEq,SeqAt.shaped,PyData.canLay0,PyData.depth,PyData.eqv]
  | some b=>
   have:=zns a b
   simp only[oD,this,Option.some.injEq]
   by_cases h:a=b<;>simp[h]
theorem ztd (z:Option Int):scl (.d (oD z))=true:=by cases z<;>rfl
theorem zro (xs:List Int) (k:Int):(xs.map fun h=>O.d (.int h))++[O.d (.int k)]=(xs++[k]).map fun h=>O.d (.int h):=by simp
section
variable {w0:O} {N Tb x y:PyData} {p q k:Int} {os:List O} {Fb:FC} {b:Bool}
end
theorem zoQ {n:Int} {rs:List Road} {ρ:Rho} (h:ρ[0]? = some (.d (netD n rs))):eB (zae (eIx (zab 0) (eC (.int 1))) aNil) (f1 fLen) ρ=.ok (.own (.d (.int (rs.length:Int)))) ρ true:=by
 have gn:=zf0 (n:=n) (rs:=rs) (ρ:=ρ) (j:=0) h;have fl:fLen (.d (zbr rs))=some (.d (.int (rs.length:Int))):=by
  unfold zbr;simp[fLen,els]
 have hn:zab 0 ρ=.ok (.at 0 []) ρ true:=by unfold zab;rw[h]
 have hi:eIx (zab 0) (eC (.int 1)) ρ=.ok (.own (.d (zbr rs))) ρ (true&&true):=zbb hn (zaN rfl rfl rfl) (by simp[pok]) gn;exact zkH (zad hi rfl rfl) rfl fl
section
variable {N:PyData} {c d l x y:PyData} {p q k u v:Int} {to os:List O} {Fs:FC} {b:Bool}
theorem zpJ (d1:eIx (eIx (zab 3) (zab 1)) (zab 7) [.d N,.d (.int p),.d (.int q),.l to,.d y,.l os,.d (.int k),.d (.int u),.d (.int v),.d l]=.ok (.own (.d c)) [.d N,.d (.int p),.d (.int q),.l to,.d y,.l os,.d (.int k),.d (.int u),.d (.int v),.d l] true)
  (d2:eIx (eIx (zab 3) (zab 8)) (zab 2) [.d N,.d (.int p),.d (.int q),.l to,.d y,.l os,.d (.int k),.d (.int u),.d (.int v),.d l]=.ok (.own (.d d)) [.d N,.d (.int p),.d (.int q),.l to,.d y,.l os,.d (.int k),.d (.int u),.d (.int v),.d l] true)
  (su:Fs [.l [.d c,.d l,.d d]]=.ok (.d x) []) (sc:scl (.d x)=true) (fe:fEq false (.d x) (.d y)=some (.d (.bool b))) (hl:os.length < sizeLine) :
  (sIf (tst (e2 (zan [false] Fs (zae (zaQ coes .l (zae (eIx (eIx (zab 3) (zab 1)) (zab 7)) (zae (zab 9) (zae (eIx (eIx (zab 3) (zab 8)) (zab 2)) aNil)))) aNil)) (zab 4) (fEq false))) (zbQ (eApp (zab 5) (zab 6))) sNil) [.d N,.d (.int p),.d (.int q),.l to,.d y,.l os,.d (.int k),.d (.int u),.d (.int v),.d l]=.nx [.d N,.d (.int p),.d (.int q),.l to,.d y,.l (if b then os++[.d (.int k)] else os),.d (.int k),.d (.int u),.d (.int v),.d l]:=by
 have cl:=zbD (ms:=[false]) (AA:=zae (zaQ coes .l (zae (eIx (eIx (zab 3) (zab 1)) (zab 7)) (zae (zab 9) (zae (eIx (eIx (zab 3) (zab 8)) (zab 2)) aNil)))) aNil) (ρ:=[.d N,.d (.int p),.d (.int q),.l to,.d y,.l os,.d (.int k),.d (.int u),.d (.int v),.d l]) (zad (zaK (zad d1 (zad rfl (zad d2 rfl rfl) rfl) rfl) rfl (Nat.le_of_ble_eq_true rfl) rfl) rfl rfl) rfl su (by simp[sc])
 cases b with
 | true=>exact if_t (za4 (zax cl rfl rfl rfl rfl fe) rfl) (zbv (zgu rfl rfl rfl rfl rfl (zdu rfl hl)))
 | false=>exact if_f (za4 (zax cl rfl rfl rfl rfl fe) rfl) rfl
end
theorem zq4 {n:Int} {rs:List Road} {ρ:Rho} (h:ρ[0]? = some (.d (netD n rs))):itE (eIx (zab 0) (eC (.int 1))) ρ=.ok (zdZ 0 (rs.map zar)) ρ true:=by
 have gn:=zf0 (n:=n) (rs:=rs) (ρ:=ρ) (j:=0) h;have hn:zab 0 ρ=.ok (.at 0 []) ρ true:=by unfold zab;rw[h]
 have hi:eIx (zab 0) (eC (.int 1)) ρ=.ok (.own (.d (zbr rs))) ρ (true&&true):=zbb hn (zaN rfl rfl rfl) (by simp[pok]) gn;unfold itE;rw[hi];rfl
theorem zmx {n one other:Int} {rs:List Road} (ok:zaL n rs) (T:Taut rs) (h1:0<=one/\one < n) (h2:0<=other/\other < n) :
  zdO [.d (netD n rs),.d (.int one),.d (.int other)]=.ok (zal (zbw n rs one other)) []:=by
 have n1:=ok.n1;have rl:=ok.len;have sh:=zcp n.toNat rs;have cq:=zcg ok h1 h2;have tq:=zdD ok T;have rd:=fun w4 w5 w6 w7 w8 w9=>ziQ (ρ:=[.d (netD n rs),.d (.int one),.d (.int other),tabO (zaP n.toNat rs),w4,w5,w6,w7,w8,w9]) (k:=3) (a:=1) (b:=2) sh rfl rfl rfl (i:=one) (j:=other) (by omega) (by omega)
 have lent3:∀ρ:Rho,zc4 [false,false,false] ρ=[]:=fun ρ=>by rcases ρ with _ | ⟨a,_ | ⟨b,_ | ⟨c,d⟩⟩⟩<;>rfl
 have fin:∀o ρ',zdK [.d (netD n rs),.d (.int one),.d (.int other),.z,.z,.z,.z,.z,.z,.z]=.rt o ρ'->zdO [.d (netD n rs),.d (.int one),.d (.int other)]=.ok o []:=fun o ρ' h=>by
  refine Eq.trans ?_ (congrArg (Rc.ok _) (lent3 ρ'));exact zhD (ms:=[false,false,false]) (n:=10) (S:=zdK) (os:=[.d (netD n rs),.d (.int one),.d (.int other)]) h
 obtain ⟨c,hc⟩:∃c,cel n rs one other=c:=⟨_,rfl⟩;have hc':cell (zaP n.toNat rs) one.toNat other.toNat=c:=hc;have rd0:=rd .z .z .z .z .z .z;rw[hc'] at rd0
 cases c with
 | none=>
  have e:zbw n rs one other=[]:=if_pos hc;rw[e];unfold tabO at *;generalize netD n rs=Nd at *;generalize (zaP n.toNat rs).map rowO=Tb at *;exact fin _ _ (zaq (zbv (zbD (zad rfl (zad rfl (zad rfl rfl rfl) rfl) rfl) rfl cq rfl)) (zaq (zaE (zaA (zad rfl rfl rfl) rfl tq rfl rfl) rfl rfl) (zaq (zaE rd0 rfl rfl) (zfY (if_t (za4 (zax rfl rfl rfl rfl rfl rfl) rfl) (zbm (zaK rfl rfl (Nat.le_of_ble_eq_true rfl) rfl) rfl))))))
 | some s=>
  have e:zbw n rs one other=zdB n rs one other rs.length:=if_neg (by rw[hc];simp);rw[e];obtain ⟨ρ',st,z6,z7,z8,z9,rfl⟩:=zcK (G:=gtT (zau (gtN 6) (zau (gtT (zau (gtN 7) (zau (gtN 8) (zau (gtN 9) zbZ)))) zbZ))) (S:=zeX) (items:=zdZ 0 (rs.map zar)) (ρ:=[.d (netD n rs),.d (.int one),.d (.int other),tabO (zaP n.toNat rs),.d (.int s),zal [],.z,.z,.z,.z])
   (fun i ρ=>∃z6 z7 z8 z9,ρ=[.d (netD n rs),.d (.int one),.d (.int other),tabO (zaP n.toNat rs),.d (.int s),zal (zdB n rs one other i),z6,z7,z8,z9]) ⟨_,_,_,_,rfl⟩
   (fun i x ρ hx h=>by
    obtain ⟨z6,z7,z8,z9,e⟩:=h;subst e;obtain ⟨d,hd,rfl⟩:=zdw hx;rw[List.getElem?_map] at hd;obtain ⟨r,hi',rfl⟩:=Option.map_eq_some_iff.mp hd;have hi:i < rs.length:=(List.getElem?_eq_some_iff.mp hi').1;obtain ⟨r1,r2,_⟩:=ok.rd r (List.mem_of_getElem? hi');have tl:=zha n rs one other i;have fe:=zrk (byC (cel n rs one r.1) r.2.2 (cel n rs r.2.1 other)) (some s);have su:=znO (cel n rs one r.1) (cel n rs r.2.1 other) r.2.2;have tb:zf4 n rs one other i=decide (byC (cel n rs one r.1) r.2.2 (cel n rs r.2.1 other)=some s):=by
     unfold zf4;rw[hi',hc]
    have d1:=ziQ (ρ:=[.d (netD n rs),.d (.int one),.d (.int other),tabO (zaP n.toNat rs),.d (.int s),zal (zdB n rs one other i),.d (.int ((0+i:Nat):Int)),.d (.int r.1),.d (.int r.2.1),.d (.int r.2.2)]) (k:=3) (a:=1) (b:=7) sh rfl rfl rfl (i:=one) (j:=r.1) (by omega) (by omega);have d2:=ziQ (ρ:=[.d (netD n rs),.d (.int one),.d (.int other),tabO (zaP n.toNat rs),.d (.int s),zal (zdB n rs one other i),.d (.int ((0+i:Nat):Int)),.d (.int r.1),.d (.int r.2.1),.d (.int r.2.2)]) (k:=3) (a:=8) (b:=2) sh rfl rfl rfl (i:=r.2.1) (j:=other) (by omega) (by omega);rw[zqN] at d1 d2;have stp:=zpJ d1 d2 su (ztd _) fe (zfb (by simp;omega));refine ⟨_,_,rfl,stp,.d (.int ((0+i:Nat):Int)),.d (.int r.1),.d (.int r.2.1),.d (.int r.2.2), ?_⟩;rw[zjg,tb];have z0:((0+i:Nat):Int)=i:=by omega
    rw[z0];unfold zal tabO;split
    .rw[zro]
    .rfl)
  rw[zdv,List.length_map] at st;have it:=fun w1 w2 w3 w4 w5 w6 w7 w8 w9=>zq4 (n:=n) (rs:=rs) (ρ:=[.d (netD n rs),w1,w2,w3,w4,w5,w6,w7,w8,w9]) rfl
  unfold tabO at *;generalize netD n rs=Nd at *;generalize (zaP n.toNat rs).map rowO=Tb at *;exact fin _ _ (zaq (zbv (zbD (zad rfl (zad rfl (zad rfl rfl rfl) rfl) rfl) rfl cq rfl)) (zaq (zaE (zaA (zad rfl rfl rfl) rfl tq rfl rfl) rfl rfl) (zaq (zaE rd0 rfl rfl) (zaq (if_f (za4 (zax rfl rfl rfl rfl rfl rfl) rfl) rfl) (zaq (zaE (zaK rfl rfl (Nat.le_of_ble_eq_true rfl) rfl) rfl rfl) (zaq (zlg (it _ _ _ _ _ _ _ _ _) st) (zbm rfl rfl)))))))
def detE (n:Int) (rs:List Road) (one other s k:Int):List (Int×Option Int):=match cel n (F29.zfl rs k.toNat) one other with
 | none=>[(k,none)]
 | some a=>if s < a then [(k,some (a - s))] else []
def detL (n:Int) (rs:List Road) (one other:Int):List (Int×Option Int):=match cel n rs one other with
 | none=>[]
 | some s=>(zbw n rs one other).flatMap (detE n rs one other s)
def detD (x:Int×Option Int):PyData:=.tuple [.int x.1,oD x.2]
def detO (xs:List (Int×Option Int)):List O:=xs.map fun x=>.d (detD x)
theorem zmY (n:Int) (rs:List Road) (one other s k:Int):(detE n rs one other s k).length<=1:=by
 unfold detE;split
 .simp
 .split<;>simp
theorem zhq {A:EF} {ρ:Rho} {q:Bool} {o:O} {ds:List PyData} {mk:List PyData->List O} (h:A ρ=.ok (.own o) ρ q) (f:fz o=some (.list ds)):srcM false mk A ρ=.ok ((mk ds,none),true) ρ q:=by
 unfold srcM;rw[h];simp[Re.bind,zf7,cov,coe,f]
theorem zkR {ρ:Rho} {t:Tab} {n:Nat} {i j:Int} (sh:Shape n t) (hi:0<=i/\i < n) (hj:0<=j/\j < n):∃r:List (Option Int),(∀ρ:Rho,gIx ρ (.own (tabO t)) i=some (.own (rowO r)))/\∀ρ:Rho,gIx ρ (.own (rowO r)) j=some (.own (.d (oD (cell t i.toNat j.toNat)))):=by
 obtain ⟨r,e1,e2,hm⟩:=sh.at (i:=i.toNat) (j:=j.toNat) (by omega) (by omega);have l1:=sh.len;have l2:=sh.row r hm;refine ⟨r,fun ρ=>?_,fun ρ=>?_⟩
 .rw[zcv];unfold tabO rowO;simp[els,zez (n:=t.length) (i:=i) (by omega),e1,ze9]
 .rw[zcv];unfold rowO;simp[els,zez (n:=r.length) (i:=j) (by omega),e2,ze9]
  cases cell t i.toNat j.toNat<;>rfl
section
variable {N Tb S x:PyData} {p q k a s:Int} {to ro so os:List O} {z6:O} {Fs Ft:FC}
end
theorem zlD {n one other k:Int} {rs:List Road} (h:k∈zbw n rs one other):0<=k/\k < rs.length:=by
 unfold zbw at h;split at h
 .cases h
 .unfold zdB at h;obtain ⟨i,hi,rfl⟩:=List.mem_map.mp h
  have:=List.mem_range.mp (List.mem_filter.mp hi).1
  omega
theorem zhL (n:Int) (rs:List Road) (one other s:Int):∀ks:List Int,(ks.flatMap (detE n rs one other s)).length<=ks.length
 | []=>Nat.le_refl _
 | k::ks=>by
  have:=zhL n rs one other s ks
  have:=zmY n rs one other s k
  rw[List.flatMap_cons,List.length_append,List.length_cons];omega
theorem zmW {n one other s:Int} {rs:List Road} {ks:List Int} {i:Nat} {k:Int} (h:ks[i]? = some k):detO ((ks.take (i+1)).flatMap (detE n rs one other s))=detO ((ks.take i).flatMap (detE n rs one other s))++detO (detE n rs one other s k):=by
 unfold detO;rw[List.take_succ,h,List.flatMap_append,List.map_append];simp
theorem zhe {n one other:Int} {rs:List Road}:(zbw n rs one other).length<=rs.length:=by
 unfold zbw;split
 .simp
 .exact zha _ _ _ _ _
theorem zjO {I:Rho->Re (Src×Bool)} {G:GF} {S:SF} {ρ ρ1:Rho} {items:List O} {r:Option (Nat×O)} {kd q:Bool} {R:Rt} (h:I ρ=.ok ((items,r),kd) ρ1 q) (k:forF G S items ρ1=R):zhO I G S ρ=R:=by
 unfold zhO;rw[h];exact k
theorem zjI {n one other:Int} {rs:List Road} (h2:0<=other/\other < n) (ρ:Rho):gIx ρ (.own (fnO (eO (tC n rs one)) n.toNat)) other=some (.own (.d (oD (cel n rs one other)))):=by
 have e:(List.range n.toNat)[other.toNat]? = some other.toNat:=List.getElem?_range (by omega);have z:((other.toNat:Nat):Int)=other:=by omega
 rw[zcv];unfold fnO eO;have ix:ixN n.toNat other=some other.toNat:=by unfold ixN;rw[if_pos h2.1,if_pos (by omega)]
 simp[els,ix,ze9,e];rw[show (max other 0:Int)=other by omega]<;>(unfold tC cel;cases cell (zaP n.toNat rs) one.toNat other.toNat<;>rfl)
section
variable {N S x:PyData} {p q k a s:Int} {so to os:List O} {y3 y z7:O} {Fs Fl:FC}
theorem zp2 (es:Fs [.d N,.d (.int k)]=.ok (.t so) []) (fs:fz (.t so)=some S) (lf:Fl [.d S,.d (.int p)]=.ok (.l to) []) (g:∀ρ:Rho,gIx ρ (.own (.l to)) q=some (.own (.d x))) :
  (sAsg coe (eIx (zan [false,false] Fl (zae (eFz (zan [false,false] Fs (zae (zab 0) (zae (zab 6) aNil)))) (zae (zab 1) aNil))) (zab 2)) (gtN 7)) [.d N,.d (.int p),.d (.int q),y3,y,.l os,.d (.int k),z7]=.nx [.d N,.d (.int p),.d (.int q),y3,y,.l os,.d (.int k),.d x]:=
 zaE (zbb (zaA (zad (F29.zis (zaA (zad rfl (zad rfl rfl rfl) rfl) rfl es rfl rfl) fs) (zad rfl rfl rfl) rfl) rfl lf rfl rfl) (zaN rfl rfl rfl) rfl (g _)) rfl rfl
theorem zqY (hl:os.length < sizeLine) {R:SF}:(sIf (tst (e2 (zab 7) (eC .none) (fIs false))) (zbQ (eApp (zab 5) (zaQ coes mkT (zae (zab 6) (zae (eC .none) aNil))))) R) [.d N,.d (.int p),.d (.int q),y3,.d (.int s),.l os,.d (.int k),.d .none]=.nx [.d N,.d (.int p),.d (.int q),y3,.d (.int s),.l (os++[.d (.tuple [.int k,.none])]),.d (.int k),.d .none]:=
 if_t (za4 (zax rfl rfl rfl rfl rfl rfl) rfl) (zbv (zgu rfl rfl (zaK (zad rfl (zad rfl rfl rfl) rfl) rfl (Nat.le_of_ble_eq_true rfl) (show mkT [.d (.int k),.d .none]=_ from rfl)) rfl rfl (zdu rfl hl)))
theorem zqs (hl:os.length < sizeLine) (c:s < a) {P:SF} :
  (sIf (tst (e2 (zab 7) (eC .none) (fIs false))) P (sIf (tst (e2 (zab 7) (zab 4) fGt)) (zbQ (eApp (zab 5) (zaQ coes mkT (zae (zab 6) (zae (e2 (zab 7) (zab 4) fSub) aNil))))) sNil)) [.d N,.d (.int p),.d (.int q),y3,.d (.int s),.l os,.d (.int k),.d (.int a)]=.nx [.d N,.d (.int p),.d (.int q),y3,.d (.int s),.l (os++[.d (.tuple [.int k,.int (a - s)])]),.d (.int k),.d (.int a)]:=by
 have gt:fGt (.d (.int a)) (.d (.int s))=some (.d (.bool true)):=by simp[c]
 exact if_f (za4 (zax rfl rfl rfl rfl rfl rfl) rfl) (if_t (za4 (zax rfl rfl rfl rfl rfl gt) rfl) (zbv (zgu rfl rfl (zaK (zad rfl (zad (zax rfl rfl rfl rfl rfl rfl) rfl rfl) rfl) rfl (Nat.le_of_ble_eq_true rfl) (show mkT [.d (.int k),.d (.int (a - s))]=_ from rfl)) rfl rfl (zdu rfl hl))))
theorem zsK (c:¬s < a) {P Q:SF} :
  (sIf (tst (e2 (zab 7) (eC .none) (fIs false))) P (sIf (tst (e2 (zab 7) (zab 4) fGt)) Q sNil)) [.d N,.d (.int p),.d (.int q),y3,.d (.int s),.l os,.d (.int k),.d (.int a)]=.nx [.d N,.d (.int p),.d (.int q),y3,.d (.int s),.l os,.d (.int k),.d (.int a)]:=by
 have gt:fGt (.d (.int a)) (.d (.int s))=some (.d (.bool false)):=by simp;omega
 exact if_f (za4 (zax rfl rfl rfl rfl rfl rfl) rfl) (if_f (za4 (zax rfl rfl rfl rfl rfl gt) rfl) rfl)
end
theorem zkz {n one other:Int} {rs:List Road} (ok:zaL n rs) (T:Taut rs) (h1:0<=one/\one < n) (h2:0<=other/\other < n) :
  zc2 [.d (netD n rs),.d (.int one),.d (.int other)]=.ok (.l (detO (detL n rs one other))) []:=by
 have n1:=ok.n1;have rl:=ok.len;have tl:=zhe (n:=n) (one:=one) (other:=other) (rs:=rs);have lt:=zmx ok T h1 h2;have lf:=zdz (one:=one) ⟨ok,by omega,T⟩ h1;have g0:=zjI (n:=n) (one:=one) (rs:=rs) h2;have lent3:∀ρ:Rho,zc4 [false,false,false] ρ=[]:=fun ρ=>by rcases ρ with _ | ⟨a,_ | ⟨b,_ | ⟨c,d⟩⟩⟩<;>rfl
 have fin:∀o ρ',zcX [.d (netD n rs),.d (.int one),.d (.int other),.z,.z,.z,.z,.z]=.rt o ρ'->zc2 [.d (netD n rs),.d (.int one),.d (.int other)]=.ok o []:=fun o ρ' h=>by
  refine Eq.trans ?_ (congrArg (Rc.ok _) (lent3 ρ'));exact zhD (ms:=[false,false,false]) (n:=8) (S:=zcX) (os:=[.d (netD n rs),.d (.int one),.d (.int other)]) h
 obtain ⟨ρ',st,z6,z7,rfl⟩:∃ρ',forF (gtN 6) zdm (((zbw n rs one other).map PyData.int).map O.d) [.d (netD n rs),.d (.int one),.d (.int other),.d (zb2 (zbw n rs one other)),.d (oD (cel n rs one other)),.l [],.z,.z]=.nx ρ'/\∃z6 z7,ρ'=[.d (netD n rs),.d (.int one),.d (.int other),.d (zb2 (zbw n rs one other)),.d (oD (cel n rs one other)),.l (detO (detL n rs one other)),z6,z7]:=by
  obtain ⟨c,hc⟩:∃c,cel n rs one other=c:=⟨_,rfl⟩
  cases c with
  | none=>
   have e:zbw n rs one other=[]:=if_pos hc;have e2:detL n rs one other=[]:=by unfold detL;rw[hc]
   rw[e,e2,hc];exact ⟨_,rfl,_,_,rfl⟩
  | some s=>
   have e2:detL n rs one other=(zbw n rs one other).flatMap (detE n rs one other s):=by unfold detL;rw[hc]
   rw[hc]
   have:=zcK (G:=gtN 6) (S:=zdm) (items:=((zbw n rs one other).map PyData.int).map O.d) (ρ:=[.d (netD n rs),.d (.int one),.d (.int other),.d (zb2 (zbw n rs one other)),.d (.int s),.l [],.z,.z])
    (fun i ρ=>∃z6 z7,ρ=[.d (netD n rs),.d (.int one),.d (.int other),.d (zb2 (zbw n rs one other)),.d (.int s),.l (detO (((zbw n rs one other).take i).flatMap (detE n rs one other s))),z6,z7]) ⟨_,_,rfl⟩
    (fun i x ρ hx h=>by
     obtain ⟨z6,z7,e⟩:=h;subst e;rw[List.getElem?_map,List.getElem?_map] at hx;obtain ⟨d,hd,rfl⟩:=Option.map_eq_some_iff.mp hx;obtain ⟨k,hk,rfl⟩:=Option.map_eq_some_iff.mp hd;have kin:=zlD (List.mem_of_getElem? hk);have es:=(F29.zov (n:=n) rl kin).1;have fs:=zhQ n (F29.zfl rs k.toNat);have oks:=F29.znb ok k.toNat;have Ts:=F29.zki T k.toNat;have lf:=zdz (one:=one) ⟨oks,by omega,Ts⟩ h1;have g:=zjI (n:=n) (one:=one) (rs:=F29.zfl rs k.toNat) h2;have ol:(detO (((zbw n rs one other).take i).flatMap (detE n rs one other s))).length < sizeLine:=zfb (by
      unfold detO;rw[List.length_map]
      have:=zhL n rs one other s ((zbw n rs one other).take i)
      rw[List.length_take] at this
      omega)
     unfold netO at es;unfold fnO at lf g;have b1:=fun w3 w4 w7=>zp2 (os:=detO (((zbw n rs one other).take i).flatMap (detE n rs one other s))) (y3:=w3) (y:=w4) (z7:=w7) es fs lf g
     have dt:=zmW (n:=n) (rs:=rs) (one:=one) (other:=other) (s:=s) hk;obtain ⟨c,hc'⟩:∃c,cel n (F29.zfl rs k.toNat) one other=c:=⟨_,rfl⟩;rw[hc'] at b1
     cases c with
     | none=>
      have de:detE n rs one other s k=[(k,none)]:=by unfold detE;rw[hc']
      rw[dt,de];exact ⟨_,_,rfl,zaq (b1 _ _ _) (zqY ol),_,_,rfl⟩
     | some a=>
      have de:detE n rs one other s k=if s < a then [(k,some (a - s))] else []:=by unfold detE;rw[hc']
      by_cases c:s < a
      .rw[if_pos c] at de;rw[dt,de];exact ⟨_,_,rfl,zaq (b1 _ _ _) (zqs ol c),_,_,rfl⟩
      .rw[if_neg c] at de;rw[dt,de];refine ⟨_,_,rfl,zaq (b1 _ _ _) (zsK c),.d (.int k),.d (.int a), ?_⟩;rw[show detO []=[] from rfl,List.append_nil])
   obtain ⟨ρ',st,z6,z7,e⟩:=this;rw[List.length_map,List.length_map,List.take_length,<-e2] at e;exact ⟨ρ',st,z6,z7,e⟩
 have fi:=zdY (zbw n rs one other);have sr:∀w4 w5 w6 w7,srcM false (fun ds=>ds.map O.d) (zab 3) [.d (netD n rs),.d (.int one),.d (.int other),zal (zbw n rs one other),w4,w5,w6,w7]=.ok ((((zbw n rs one other).map PyData.int).map O.d,none),true) [.d (netD n rs),.d (.int one),.d (.int other),.d (zb2 (zbw n rs one other)),w4,w5,w6,w7] true:=fun w4 w5 w6 w7=>by
  unfold zal zb2 at *;generalize (zbw n rs one other).map (fun h=>O.d (.int h))=Z at *;unfold srcM;simp[fi,cov,-List.map_map]
 unfold zal fnO at *;generalize (zbw n rs one other).map (fun h=>O.d (.int h))=Z at *;generalize (List.range n.toNat).map (fun v:Nat=>eO (tC n rs one) v)=Y at *;generalize netD n rs=Nd at *;exact fin _ _ (zaq (zaE (zaA (zad rfl (zad rfl (zad rfl rfl rfl) rfl) rfl) rfl lt rfl rfl) rfl rfl) (zaq (zaE (zbb (zaA (zad rfl (zad rfl rfl rfl) rfl) rfl lf rfl rfl) (zaN rfl rfl rfl) rfl (g0 _)) rfl rfl) (zaq (zaE (zaK rfl rfl (Nat.le_of_ble_eq_true rfl) rfl) rfl rfl) (zaq (zjO (sr _ _ _ _) st) (zbm rfl rfl)))))
theorem zpZ {I:Rho->Re (Src×Bool)} {js:List (Option Nat)} {G:GF} {T:TF} {A:EF} {ρ ρ1:Rho} {items os:List O} {kd q1 q2:Bool} (h:I ρ=.ok ((items,none),kd) ρ1 q1) (hl:items.length<=sizeLine) (k:lcF js G T A items ρ1 [] true=.ok os ρ1 q2):eLS I js G T A ρ=.ok (.own (.l os)) ρ1 (q1&&q2):=F24.zjW h hl k rfl
theorem zoJ (xs:List (Int×Option Int)):detO xs=(xs.map detD).map O.d:=by
 unfold detO;rw[List.map_map];rfl
theorem zpS (xs:List (Int×Option Int)):fz (.l (detO xs))=some (.list (xs.map detD)):=by
 rw[zoJ,zfS]
theorem zm4 {n one other:Int} {rs:List Road}:(detL n rs one other).length<=rs.length:=by
 unfold detL;split
 .simp
 .exact Nat.le_trans (zhL _ _ _ _ _ _) zhe
def fstO:O->O
 | .d (.tuple (.int x::_))=>.d (.int x)
 | o=>o
theorem zlw {n one other:Int} {rs:List Road} (ok:zaL n rs) (T:Taut rs) (h1:0<=one/\one < n) (h2:0<=other/\other < n) :
  za6 [.d (netD n rs),.d (.int one),.d (.int other)]=.ok (zal ((detL n rs one other).map Prod.fst)) []:=by
 have rl:=ok.len;have dl:=zm4 (n:=n) (one:=one) (other:=other) (rs:=rs);have dt:=zkz ok T h1 h2;obtain ⟨q,e⟩:=zfy (js:=[none,none]) (G:=gtT (zau (gtN 0) (zau (gtN 1) zbZ))) (T:=gRet true) (A:=zey) (ρ:=[.d (netD n rs),.d (.int one),.d (.int other)]) (fun _=>true) fstO (items:=((detL n rs one other).map detD).map O.d) (acc:=[]) (q:=true) (fun o ho=>by
  rw[List.map_map] at ho;obtain ⟨x,hx,rfl⟩:=List.mem_map.mp ho;exact ⟨[.d (.int x.1),.d (oD x.2)],[.d (.int x.1),.d (oD x.2)],true,rfl,rfl,(fun _=>⟨.at 0 [],[.d (.int x.1),.d (oD x.2)],true,[.d (.int x.1),.d (oD x.2)],rfl,rfl,rfl⟩),(fun h=>by cases h)⟩)
 have em:(((detL n rs one other).map detD).map O.d).map fstO=((detL n rs one other).map Prod.fst).map fun h=>O.d (.int h):=by
  rw[List.map_map,List.map_map,List.map_map];rfl
 rw[F29.zdc,List.nil_append,em] at e;have fd:=zpS (detL n rs one other);have lz:(((detL n rs one other).map detD).map O.d).length<=sizeLine:=zbR (by simp;omega);unfold zal;generalize ((detL n rs one other).map Prod.fst).map (fun h=>O.d (.int h))=Z at *;generalize (detL n rs one other).map detD=D at *;generalize detO (detL n rs one other)=Y at *;generalize netD n rs=Nd at *;exact zbX rfl (zbm (zpZ (zhq (mk:=fun ds=>ds.map O.d) (zaA (zad rfl (zad rfl (zad rfl rfl rfl) rfl) rfl) rfl dt rfl rfl) fd) lz e) rfl) rfl
end F30
theorem zio:∀t:Tab,PyData.canLayAll0 (t.map rowD)=true/\PyData.depthAll (t.map rowD)<=1
 | []=>by simp[PyData.canLayAll0,PyData.depthAll]
 | r::t=>by
  have h:=zio t;have h2:=zgL r;rw[List.map_cons];simp only[PyData.canLayAll0,PyData.depthAll,rowD,PyData.canLay0,PyData.depth,h2.1,h2.2,h.1];refine ⟨rfl, ?_⟩
  have:=h.2
  omega
end My
namespace L2
open PySem PySem.Spec PySem.Calls PySem.W PyProof.Rows
section
variable {X:Cx} {E:XK}
end
section
variable (mg:Str->Option Value) (K:PySem.W.Frag) (E:XK) (L:List Nat)
end
section
variable {X:Cx} {L:List Nat}
end
section
variable {X:Cx} {E:XK} {L:List Nat}
end
section
variable {X:Cx} {E:XK}
end
end L2
namespace L2
open PySem PySem.Spec PyProof.Rows
section
variable {X:Cx} {E:XK} {L:List Nat}
end
end L2
namespace L2
open PySem PySem.Spec PySem.Calls PyProof.Rows
def zipO:List PyData->List PyData->List O
 | a::as,b::bs=>.d (.tuple [a,b])::zipO as bs
 | _,_=>[]
theorem zjJ:∀{as bs:List PyData} {i:Nat} {a b:PyData},as[i]? = some a->bs[i]? = some b->(zipO as bs)[i]? = some (.d (.tuple [a,b]))
 | [],_,_,_,_,h,_=>by simp at h
 | _::_,[],_,_,_,_,h=>by simp at h
 | x::as,y::bs,0,a,b,h,k=>by simp at h k;subst h k;rfl
 | x::as,y::bs,i+1,a,b,h,k=>by
  rw[zipO,List.getElem?_cons_succ];exact zjJ (by simpa using h) (by simpa using k)
theorem zho:∀(as bs:List PyData),(zipO as bs).length=min as.length bs.length
 | [],_=>by simp[zipO]
 | _::_,[]=>by simp[zipO]
 | x::as,y::bs=>by rw[zipO,List.length_cons,zho as bs,List.length_cons,List.length_cons];omega
def zz:List O->Option (List O)
 | [.d (.list as),.d (.list bs)]=>some (zipO as bs)
 | _=>none
theorem zop {os is:List O} (h:zz os=some is):∃as bs,os=[.d (.list as),.d (.list bs)]/\is=zipO as bs:=by
 unfold zz at h;split at h
 .cases h;exact ⟨_,_,rfl,rfl⟩
 .cases h
def itZ (AA:AF):Rho->Re (List O):=fun ρ=>(AA ρ).bind fun rs ρ1 q=>match coes ρ1 rs with
 | some (os,ρ2)=>match zz os with
  | some is=>.ok is ρ2 q
  | none=>.bad
 | none=>.bad
section
variable {mg:Str->Option Value} {K:PySem.W.Frag} {E:XK}
theorem Ows.two {H:Hp} {W:Addr->Prop} {vs:List V} {as bs:List PyData} {As:List Addr} (h:Ows mg K H W vs [.d (.list as),.d (.list bs)] As):∃a b xs ys,vs=[.ref a,.ref b]/\H a=some (.lst xs)/\¬W a/\Dns H W xs as/\H b=some (.lst ys)/\¬W b/\Dns H W ys bs:=by
 cases h with
 | cons a b=>
  cases b with
  | cons b c=>
   cases c
   cases a with
   | d a=>
    cases b with
    | d b=>
     cases a with
     | lst n q t=>
      cases b with
      | lst n' q' t'=>exact ⟨_,_,_,_,rfl,q,n,t,q',n',t'⟩
end
section
variable {X:Cx} {E:XK} {L:List Nat}
theorem lc_Z {AA:AF} {A:EF} {js:List (Option Nat)} {G:GF} {T:TF} {σ:St} {H:Hp} {Q:VK} (nd:(caps js).Nodup) (h:tR X.mg X.K E (eLC (itZ AA) js G T A) σ H Q):tLC (iZ (tRs X.mg X.K E AA)) js (tTg X.mg X.K (capL js) G) (tT X.mg X.K E0' T) (tR X.mg X.K E0' A) σ H Q:=by
 obtain ⟨W,ρ,f,ok,q⟩:=h;refine znX (X:=X) zaO ok ?_;unfold eLC itZ at q
 cases ea:AA ρ with
 | bad=>rw[ea] at q;exact q
 | ex c ρ'=>rw[ea] at q;exact q
 | ok rs ρ1 q1=>
  rw[ea] at q;dsimp only[Re.bind] at q ⊢
  cases ec:coes ρ1 rs with
  | none=>rw[ec] at q;exact False.elim q
  | some z=>
   obtain ⟨os,ρ2⟩:=z;rw[ec] at q;dsimp only at q ⊢;intro vs H' W' f' As s ow nd' ap m k
   cases ez:zz os with
   | none=>rw[ez] at q;exact False.elim q
   | some is=>
    rw[ez] at q;dsimp only at q;obtain ⟨as,bs,rfl,rfl⟩:=zop ez
    by_cases hz:(zipO as bs).length<=sizeLine
    .rw[if_pos hz] at q
     cases b:lcF js G T A (zipO as bs) ρ2 [] true with
     | bad=>rw[b] at q;exact False.elim q
     | ex c ρ'=>rw[b] at q;exact False.elim q
     | ok os' ρ3 q3=>
      rw[b] at q;obtain ⟨a,b',xs,ys,rfl,ha,na,da,hb,nb,db⟩:=Ows.two ow;have m':Mv (Inn f) H W (Inn f') H' W':=m.narrow fun x z=>.inl z
      refine ⟨a,b',xs,ys,rfl,ha,hb,zjj (items:=zipO as bs) (.next s m' fun _ z=>z) nd (fun k i=>zgh) hz (fun i H2 W2 ⟨_,mm⟩ hi=>?_) (fun H2 W2 ⟨_,mm⟩=>?_) (fun i H2 W2 x H3 ⟨_,mm⟩ dd hi y=>?_) b (znH ok m' k q)⟩
      .rw[zho,<-da.length,<-db.length] at hi;have h1:i < xs.length:=by omega
       have h2:i < ys.length:=by omega
       exact ⟨xs,xs[i],ys,ys[i],(mm.d a _ ha na).1,by simp[h1],(mm.d b' _ hb nb).1,by simp[h2]⟩
      .exact ⟨xs,ys,(mm.d a _ ha na).1,(mm.d b' _ hb nb).1,by rw[zho,da.length,db.length];omega⟩
      .obtain ⟨t,z,w,rfl,ht,rfl,y1,y2⟩:=y;obtain ⟨d,e1,e2⟩:=da.getV (y1 xs (mm.d a _ ha na).1);obtain ⟨d',e1',e2'⟩:=db.getV (y2 ys (mm.d b' _ hb nb).1);have g:Gr H2 W2 [] (upd H2 t (.tup [z,w])) W2:=.new ht;exact ⟨g,_,zjJ e1 e1',.d (.tup (fun w=>dd t w ht) zbG (.cons ((e2.on mm.d).on g.d) (.cons ((e2'.on mm.d).on g.d) .nil)))⟩
    .rw[if_neg hz] at q;exact False.elim q
section
variable {elt:Expr} {ifs:List Expr} {scope:Scope} {pos:Pos} {N':List Str} {js:List (Option Nat)} {G:GF} {T:TF} {A:EF} {AA:AF}
theorem zqC {elts:List Expr} {kk:Nat} {tp p cpos:Pos} {a b:Expr} (hi:VA X E [a,b] AA) (hgl:Gl X "zip") (hm:X.mg "zip"=none) (hc:X.calm=true) (hcap:zh1 X.N X.env.scope N' scope js=true) (hf:zfn X.env.scope scope=true) (hkind:scope.kind=.function) (nd:(caps js).Nodup)
  (hb:Blk X N' scope js (.Tuple elts kk tp) ifs elt G T A) (hst:starEach [a,b] X.env=(false,eval a X.env)::starEach [b] X.env:=by rfl) (hpl:(backTo cpos (starEach [b] X.env)).any (·.1)=false:=by rfl)
  (hs:∀x,foldedSetIterable (.Call (.Name "zip" p) [a,b] [] cpos) X.env x=pure x:=by intro _;rfl):VR X E (.ListComp elt [⟨.Tuple elts kk tp,.Call (.Name "zip" p) [a,b] [] cpos,ifs,0⟩] scope pos) (eLC (itZ AA) js G T A):=
 (zox hc (zrd hgl hm hi hst hpl) hcap ziG hf hkind hb hs).imp fun σ H Q h=>lc_Z nd h
end
end
end L2
namespace L2
open PySem PyProof.Rows
theorem znT:typeLookup (.type "list") (Str.ofString "__iter__")=pure (some (.builtin "list.__iter__")):=by kernel_rfl
theorem zig {prog:Program} {w:World} {A:Around} {E:Value->Shared->Prop} {it l:Addr} {items:Array Value} (hne:l≠it):∀(n i:Nat) (s:Shared) (Q:List Value->Shared->Prop),s.heap.IsListIter it l i->s.heap.IsList l items->i+n<=items.size->
  (∀h',Heap.IsListIter h' it l (i+n)->Heap.SameBut it s.heap h'->Q ((items.toList.drop i).take n) { s with heap:=h' })->wpAny (model prog w) A (draw (.ref it) n) Q E s
 | 0,i,s,Q,h1,h2,hl,k=>by
  rw[draw.eq_1];exact wpAny_pure (k s.heap h1 ⟨rfl,fun _ _=>rfl⟩)
 | n+1,i,s,Q,h1,h2,hl,k=>by
  have hi:items[i]? = some items[i]:=Array.getElem?_eq_getElem (by omega);rw[draw.eq_2];refine wpAny_bind (wpAny_pyNext_list_item h1 h2 hi fun h' i1 sb=>?_);dsimp only;have h2':Heap.IsList h' l items:=by
   obtain ⟨o,e,r⟩:=h2;exact ⟨o,(sb.2 l hne).trans e,r⟩
  refine wpAny_bind (wpAny_holding (zig hne n (i+1) { s with heap:=h' } _ i1 h2' (by omega) fun h'' i2 sb2=>?_));refine wpAny_pure ?_;have e:(items.toList.drop i).take (n+1)=items[i]::(items.toList.drop (i+1)).take n:=by
   rw[List.drop_eq_getElem_cons (by simpa using (by omega:i < items.size)),List.take_succ_cons];simp
  rw[<-e];exact k h'' (by rw[show i+(n+1)=i+1+n by omega];exact i2) ⟨sb2.1.trans sb.1,fun b hb=>(sb2.2 b hb).trans (sb.2 b hb)⟩
theorem zgb {prog:Program} {w:World} {A:Around} {E:Value->Shared->Prop} {s:Shared} {l:Addr} {items:Array Value} {Q:List Value->Shared->Prop} (hA:A.handled=none) (h:s.heap.IsList l items)
  (k:∀h',Heap.ExtBut s.heap.objs.size s.heap h'->Q items.toList { s with heap:=h' }):wpAny (model prog w) A (unpackItems (.ref l) items.size none) Q E s:=by
 have hT:s.TypeIs (.ref l) "list":=by
  obtain ⟨o,e,c,_⟩:=h;exact ⟨o,e,c⟩
 unfold unpackItems notIterableAtAll;refine wpAny_bind (wpAny_bind (wpAny_specialOf hT znT ?_));simp only[Option.isSome_some,if_true];refine wpAny_pure ?_;simp only[Bool.false_eq_true,if_false];refine wpAny_bind (wpAny_holding (wpAny_pyIter_list h ?_));have hl:l < s.heap.objs.size:=by
  obtain ⟨o,e,_⟩:=h;exact Heap.lt_size e
 have i0:Heap.IsListIter (s.heap.push { cls:=.type "list_iterator",data:=.fields #[.ref l,.int 0 0] }) s.heap.objs.size l 0:=⟨_,Heap.get?_push_size _ rfl,rfl,rfl⟩;have h0:Heap.IsList (s.heap.push { cls:=.type "list_iterator",data:=.fields #[.ref l,.int 0 0] }) l items:=by
  obtain ⟨o,e,r⟩:=h;exact ⟨o,Heap.get?_push_of_some _ e,r⟩
 refine wpAny_bind (wpAny_holding (zig (Nat.ne_of_lt hl) items.size 0 _ _ i0 h0 (by omega) fun h1 i1 sb=>?_));simp only[List.drop_zero];rw[List.take_of_length_le (by simp)];rw[if_neg (by simp)];have h1':Heap.IsList h1 l items:=by
  obtain ⟨o,e,r⟩:=h0;exact ⟨o,(sb.2 l (Nat.ne_of_lt hl)).trans e,r⟩
 refine wpAny_bind (wpAny_holding (wpAny_pyNext_list_end hA i1 h1' (by simp) fun h2 eb=>?_));simp only[Option.isSome_none,Bool.false_eq_true,if_false];refine wpAny_pure (k h2 fun b o hb e=>eb b o hb ((sb.2 b hb).trans (Heap.get?_push_of_some _ e)))
theorem zfT {prog:Program} {w:World} {A:Around} {E:Value->Shared->Prop} {s:Shared} {env:Env} {elts:List Expr} {k:Nat} {pos:Pos} {l:Addr} {items:Array Value} {Q:Unit->Shared->Prop} (hA:A.handled=none) (h:s.heap.IsList l items)
  (hn:(assignEach elts env).length=items.size) (hst:(assignEach elts env).findIdx? (·.1)=none)
  (kk:∀h',Heap.ExtBut s.heap.objs.size s.heap h'->wpAny (model prog w) A (assignInOrder ((assignEach elts env).map (·.2)) items.toList) Q E { s with heap:=h' }):wpAny (model prog w) A (assign (.Tuple elts k pos) env (.ref l)) Q E s:=by
 rw[arm_assign_Tuple];refine wpAny_bind (wpAny_standAt ?_);unfold unpack;rw[hst,hn];exact wpAny_bind (wpAny_holding (zgb hA h fun h' hx=>kk h' hx))
section
variable {X:Cx}
def zsr (K:PySem.W.Frag) (n:Nat) (t:TGs):TG:=fun v σ H Q=>∃a xs,v=.ref a/\SqL K H a xs/\xs.length=n/\t xs σ H Q
theorem zoB {es:List Expr} {k:Nat} {t:TGs} {n:Nat} {pos:Pos} (hc:X.calm=true) (h:PGs X es t)
  (hn:(assignEach es X.env).length=n:=by rfl) (hst:(assignEach es X.env).findIdx? (·.1)=none:=by rfl):PG X (.Tuple es k pos) (zsr X.K n t):=by
 intro pins s σ H v u Q I r hw;obtain ⟨a,xs,e1,hq,hl,hw⟩:=hw;subst e1;cases r;obtain ⟨its,rv,ht,hz⟩:=I.list hq;refine zfT (I.ok.hd hc) ht.isList (by simp[hn,<-hl,rv.length]) hst fun h' hx=>?_
 have I1:Inv X pins σ H { s with heap:=h' }:=I.kept (t':=s.toks) fun b o e=>hx b o (Nat.ne_of_lt (Heap.lt_size e)) e
 exact h pins _ σ H xs _ Q I1 (by simpa using rv) hw
def gtL (R:List O->Rho->Option Rho):GF:=fun o ρ=>match els o with
 | some (true,os)=>R os ρ
 | _=>none
theorem zk3 {es:List Expr} {k:Nat} {R:List O->Rho->Option Rho} {pos:Pos} {L:List Nat} (hc:X.calm=true) (h:VGs X L es R) (n:Nat) (hR:∀os ρ ρ',R os ρ=some ρ'->os.length=n)
  (hn:(assignEach es X.env).length=n:=by rfl) (hst:(assignEach es X.env).findIdx? (·.1)=none:=by rfl):VG X L (.Tuple es k pos) (gtL R):=fun pins s σ H v u Q I r hx__=>by
 obtain ⟨W,ρ,f,o,B,ρ',sl,ow,nd,ap,sb,dm,e,q⟩:=hx__;refine zoB hc h hn hst pins s σ H v u Q I r ?_;unfold gtL at e
 cases z:els o with
 | none=>rw[z] at e;cases e
 | some y=>
  obtain ⟨b,os⟩:=y;rw[z] at e
  cases b with
  | false=>cases e
  | true=>
   obtain ⟨a,vs,A,rfl,h2,h3,h4⟩:=ow.els z;exact ⟨a,vs,rfl,SqL.of h2,by rw[h3.length];exact hR os ρ ρ' e,W,ρ,f,os,A,ρ',sl,h3,nd.sublist h4,fun x hx=>ap x (h4.subset hx),fun x hx=>sb x (hx.imp id (fun z=>h4.subset z)),dm,e,fun σ' f' s' i' l'=>q σ' f' s' (fun x hx=>(i' x hx).imp id (fun z=>h4.subset z)) l'⟩
def eFzN (A:EF):EF:=fun ρ=>match A ρ with
 | .bad=>.bad
 | .ex c ρ'=>.ex c ρ'
 | .ok r ρ' _=>match coe ρ' r with
  | some (o,ρ2)=>.ok (.own o) ρ2 false
  | none=>.bad
theorem zq1 {E:XK} {e:Expr} {A:EF} (h:VR X E e A):VR X E e (eFzN A):=h.imp fun σ H Q hx__=>by
 obtain ⟨W,ρ,f,ok,q⟩:=hx__;refine zh7 zag ok ?_;unfold eFzN at q
 cases a:A ρ with
 | bad=>rw[a] at q;exact q
 | ex c ρ'=>rw[a] at q;exact q
 | ok r ρ' k=>
  rw[a] at q;dsimp only at q ⊢
  cases b:coe ρ' r with
  | none=>rw[b] at q;exact q
  | some z=>obtain ⟨o,ρ''⟩:=z;rw[b] at q;exact fun v H' W' f' As s ow nd ap m=>q v H' W' f' As s ⟨ow,nd⟩ ap m (fun z=>nomatch z)
end
end L2
noncomputable section
namespace My
open PySem L2
def zdA:EF:=(zaQ coes mkT (zae (e2 (eIx (zab 0) (eC (.int 0))) (zab 1) fAdd) (zae (e2 (eIx (zab 0) (eC (.int 1))) (zab 1) fAdd) (zae (eIx (zab 0) (eC (.int 2))) aNil))))
def zfg:SF:=(sRet coe (eLS (srcM true (fun ds=>ds.map O.d) (eIx (zab 0) (eC (.int 1)))) [none,some 1] (gtN 0) (gRet true) zdA))
def zbV:FC:=runF [false,false] 2 zfg
def zbE:EF:=(e2 (zab 0) (zab 1) fAdd)
def zbj:SF:=(sSeq (sAsg coe (zan [false,false] zbe (zae (zab 0) (zae (zab 3) aNil))) (gtN 4))
  (sIf (tst (e2 (eIx (zab 4) (eC (.int 0))) (eC (.str "free")) (fEq false))) (zbQ (eApp (zab 2) (zaQ coes mkT (zae (eC (.str "free")) (zae (eLS (srcM true (fun ds=>ds.map O.d) (eIx (zab 4) (eC (.int 1)))) [none,some 1] (gtN 0) (gRet true) zbE) aNil))))) (zbQ (eApp (zab 2) (zaQ coes mkT (zae (eC (.str "fall")) (zae (eIx (zab 4) (eC (.int 1))) aNil)))))))
def zel:SF:=(sSeq (sAsg coe (zaQ coes .l aNil) (gtN 2))
  (sSeq (sFor (itR1 (eB (zae (eIx (zab 0) (eC (.int 1))) aNil) (f1 fLen))) (gtN 3) zbj)
  (sRet mov (zab 2))))
def za8:FC:=runF [false,false] 5 zel
def ze0:EF:=(eC .none)
def zbO:EF:=(e2 (zab 0) (eFz (eLC (itR1 (eIx (zab 1) (eC (.int 0)))) [none] (gtN 0) (gRet true) ze0)) fAdd)
def ze3:EF:=(eC .none)
def zbS:EF:=(e2 (eFz (eLC (itR1 (zab 1)) [none] (gtN 0) (gRet true) ze3)) (zab 0) fAdd)
def zd3:SF:=(sSeq (sAsg coe (eIx (zab 0) (eC (.int 0))) (gtN 2))
  (sSeq (sAsg coe (zaQ coes mkT (zae (e2 (zab 2) (eIx (zab 1) (eC (.int 0))) fAdd) (zae (e2 (eIx (zab 0) (eC (.int 1))) (eFz (zan [false,false] zbV (zae (zab 1) (zae (zab 2) aNil)))) fAdd) aNil))) (gtN 3))
  (sSeq (sIf (tst (e2 (zan [false] zaT (zae (zab 3) aNil)) (zaQ coes mkT (zae (eC (.str "heights")) (zae (e2 (eIx (zan [false] zaT (zae (zab 0) aNil)) (eC (.int 1))) (eIx (zan [false] zaT (zae (zab 1) aNil)) (eC (.int 1))) fAdd) aNil))) (fEq true))) (sRet mov (eC (.bool false))) sNil)
  (sSeq (sAsg coe (eLS (srcM false (fun ds=>ds.map O.d) (zan [false] zaG (zae (zab 0) aNil))) [none,some 1] (gtN 0) (gRet true) zbO) (gtN 4))
  (sSeq (sAsg coe (e2 (eFzN (zab 4)) (eFz (eLS (srcM false (fun ds=>ds.map O.d) (zan [false] zaG (zae (zab 1) aNil))) [none,some 2] (gtN 0) (gRet true) zbS)) fAdd) (gtN 4))
  (sRet coe (eAnd (e2 (zan [false] zaG (zae (zab 3) aNil)) (zab 4) (fEq false)) (e2 (zan [false,false] za8 (zae (zab 3) (zae (eC (.int 0)) aNil))) (e2 (eFz (zan [false,false] za8 (zae (zab 0) (zae (eC (.int 0)) aNil)))) (eFz (zan [false,false] za8 (zae (zab 1) (zae (zab 2) aNil)))) fAdd) (fEq false)))))))))
def zaU:FC:=runF [false,false] 5 zd3
def zcH:EF:=(eIx (eIx (zab 2) (zab 0)) (zab 1))
def zc5:SF:=(sRet coe (zan [false] zb1 (zae (eLC (itZ (zae (zab 1) (zae (eFz (eSl (zab 1) (zh9 (eC (.int 1))) oNo)) aNil))) [none,none,some 0] (gtT (zau (gtN 0) (zau (gtN 1) zbZ))) (gRet true) zcH) aNil)))
def zb8:FC:=runF [false,false] 2 zc5
def zdH:SF:=(zbQ (zan [false,false] zbi (zae (zab 0) (zae (zab 2) aNil))))
def zem:SF:=(sSeq (zbQ (zan [false] za7 (zae (zab 0) aNil)))
  (sSeq (zhO (srcM false (fun ds=>ds.map O.d) (zab 1)) (gtN 2) zdH)
  (sSeq (sIf (gNot (zeo (eC (.int 1)) (eB (zae (zab 1) aNil) (f1 fLen)) (eC (.int (7))) (fun i j=>decide (i<=j)) (fun i j=>decide (i<=j)))) sBad sNil)
  (sRet mov (zan [false] zaG (zae (zab 0) aNil))))))
def zde:FC:=runF [false,false] 3 zem
def zeU:SF:=(sRet coe (zan [false,false] zb8 (zae (eFz (zan [false,false] zde (zae (zab 0) (zae (zab 1) aNil)))) (zae (zab 1) aNil))))
def zco:FC:=runF [false,false] 2 zeU
def zen:SF:=(sSeq (zbQ (zan [false,false,false] zaS (zae (zab 0) (zae (zab 1) (zae (zab 2) aNil)))))
  (sSeq (sIf (gNot (eSc trV (zan [false,false,false,false] zdL (zae (zab 0) (zae (zab 1) (zae (zab 2) (zae (zab 3) aNil))))))) sBad sNil)
  (sRet mov (zan [false,false] zbc (zae (zab 0) (zae (zab 3) aNil))))))
def zbA:FC:=runF [false,false,false,false] 4 zen
def zbn:EF:=(zan [true,false] zas (zae (zab 1) (zae (zab 2) aNil)))
def zbl:EF:=(zan [true,false] zas (zae (zab 1) (zae (eIx (zab 2) (eC (.int 0))) aNil)))
def zcE:SF:=(sSeq (sAsg coe (eIx (zab 1) (eC (.int 0))) (gtN 3))
  (sSeq (sAsg coe (eLC (itR1 (eC (.int 2))) [none,some 0,some 3] (gtN 0) (gRet true) zbn) (gtL (zau (gtN 4) (zau (gtN 5) zbZ))))
  (sSeq (sAsg coe (eLC (itR1 (eC (.int 2))) [none,some 0,some 2] (gtN 0) (gRet true) zbl) (gtL (zau (gtN 6) (zau (gtN 7) zbZ))))
  (sSeq (sAsg coe (zaQ coes mkT (zae (zab 5) (zae (e2 (zab 3) (zab 6) fAdd) (zae (zan [true,false] zbd (zae (zab 0) (zae (e2 (eC (.int 10)) (eC (.int 9)) fPow) aNil))) aNil)))) (gtN 8))
  (sSeq (sAsg coe (zaQ coes mkT (zae (e2 (zab 3) (eIx (zab 2) (eC (.int 0))) fAdd) (zae (e2 (e2 (eIx (zab 1) (eC (.int 1))) (zan [false,false] zbV (zae (zab 2) (zae (zab 3) aNil))) fAdd) (zaQ coes .l (zae (zab 8) aNil)) fAdd) aNil))) (gtN 9))
  (sSeq (sAsg coe (e2 (eB (zae (eIx (zab 9) (eC (.int 1))) aNil) (f1 fLen)) (eC (.int 1)) fSub) (gtN 10))
  (sSeq (sAsg coe (eIx (eIx (zan [false] zaG (zae (zab 1) aNil)) (zab 4)) (zab 5)) (gtN 11))
  (sSeq (sAsg coe (eIx (eIx (zan [false] zaG (zae (zab 2) aNil)) (zab 6)) (zab 7)) (gtN 12))
  (sSeq (sAsg coe (zan [false,false] zbe (zae (zab 9) (zae (zab 10) aNil))) (gtN 13))
  (sSeq (sIf (gOr (tst (e2 (eIx (zab 13) (eC (.int 0))) (eC (.str "free")) (fEq true))) (tst (e2 (eIx (zan [false,false,false] za5 (zae (zab 9) (zae (e2 (zab 3) (zab 7) fAdd) (zae (zab 4) aNil)))) (eC (.int 0))) (eC (.str "none")) (fEq true)))) (sRet mov (eC (.bool false))) sNil)
  (sSeq (sAsg coe (zan [false,false,false,false] zcJ (zae (zab 9) (zae (zab 4) (zae (e2 (zab 3) (zab 7) fAdd) (zae (zab 10) aNil))))) (gtN 14))
  (sSeq (sAsg coe (zan [false,false,false] za5 (zae (zab 9) (zae (zab 4) (zae (e2 (zab 3) (zab 7) fAdd) aNil)))) (gtN 15))
  (sSeq (sIf (gOr (tst (e2 (zab 11) (eC .none) (fIs false))) (tst (e2 (zab 12) (eC .none) (fIs false)))) (sRet mov (eAnd (e2 (zab 14) (eC .none) (fIs false)) (eAnd (e2 (eIx (zab 15) (eC (.int 0))) (eC (.str "none")) (fEq false)) (e2 (zan [false,false,false] za6 (zae (zab 9) (zae (zab 4) (zae (e2 (zab 3) (zab 7) fAdd) aNil)))) (zaQ movs .l aNil) (fEq false))))) sNil)
  (sSeq (sAsg coe (e2 (e2 (zab 11) (eIx (zab 8) (eC (.int 2))) fAdd) (zab 12) fAdd) (gtN 16))
  (sSeq (sIf (gOr (tst (e2 (zab 14) (eC .none) (fIs false))) (gOr (tst (e2 (eIx (zab 14) (eC (.int 0))) (zab 16) (fEq true))) (tst (e2 (zan [false,false,false,false] zbA (zae (zab 9) (zae (zab 4) (zae (e2 (zab 3) (zab 7) fAdd) (zae (eIx (zab 15) (eC (.int 1))) aNil))))) (zab 16) (fEq true))))) (sRet mov (eC (.bool false))) sNil)
  (sSeq (sIf (tst (e2 (zab 10) (zan [false,false,false] za6 (zae (zab 9) (zae (zab 4) (zae (e2 (zab 3) (zab 7) fAdd) aNil)))) (fIn true))) (sRet mov (eC (.bool false))) sNil)
  (sRet coe (e2 (zan [false,false] zco (zae (zab 9) (zae (zaQ coes .l (zae (zab 4) (zae (zab 5) (zae (e2 (zab 3) (zab 6) fAdd) (zae (e2 (zab 3) (zab 7) fAdd) aNil))))) aNil))) (zab 16) (fEq false)))))))))))))))))))
def zbB:FC:=runF [true,false,false] 17 zcE
def zdN:SF:=(sSeq (sAsg coe (zan [false,false] zbW (zae (zab 0) (zae (zab 1) aNil))) (gtN 2))
  (sSeq (sAsg coe (zan [true,false,false] zbs (zae (zab 2) (zae (eC (.int 6)) (zae (eC (.int 9)) aNil)))) (gtN 3))
  (sSeq (sAsg coe (zan [true,false,false] zbs (zae (zab 2) (zae (eC (.int 6)) (zae (eC (.int 9)) aNil)))) (gtN 4))
  (sSeq (sIf (gOr (gNot (eSc trV (zan [false,false] zaU (zae (zab 3) (zae (zab 4) aNil))))) (gNot (eSc trV (zan [false,false] zaU (zae (zab 4) (zae (zab 3) aNil)))))) (sRet mov (eC (.bool false))) sNil)
  (sIf (gAnd (tst (e2 (e2 (eIx (zab 3) (eC (.int 0))) (eIx (zab 4) (eC (.int 0))) fMul) (eC (.int 0)) fGt)) (gNot (eSc trV (zan [true,false,false] zbB (zae (zab 2) (zae (zab 3) (zae (zab 4) aNil))))))) (sRet mov (eC (.bool false))) sNil)))))
def zfD:SF:=(sSeq (sFor (itR1 (eC (.int 2))) (gtN 1) zdN)
  (sRet mov (eC (.bool true))))
end My
end
namespace My
open PySem L2
namespace F43
def up (c:Int) (r:Road):Road:=(r.1+c,r.2.1+c,r.2.2)
def side (c:Int) (a b:List Road):List Road:=a++b.map (up c)
def In (c:Int) (a:List Road):Prop:=∀r∈a,(0<=r.1/\r.1 < c)/\0<=r.2.1/\r.2.1 < c
theorem zf6 {c:Int} {a:List Road} (ok:zaL c a):In c a:=fun r hr=>⟨(ok.rd r hr).1,(ok.rd r hr).2.1⟩
section
variable {c d:Int} {a b:List Road} {r:Road} {p q L:Int}
theorem wk_l (w:Wk a p q L):Wk (side c a b) p q L:=w.sub fun _ h=>List.mem_append_left _ h
theorem wk_r (w:Wk b p q L):Wk (side c a b) (p+c) (q+c) L:=by
 induction w with
 | nil p=>exact .nil _
 | @cons r q L hr _ ih=>exact Wk.cons (r:=up c r) (List.mem_append_right _ (List.mem_map_of_mem hr)) ih
theorem zds (ha:In c a) (hb:In d b) (w:Wk (side c a b) p q L):(p < c->q < c/\Wk a p q L)/\(c<=p->c<=q/\Wk b (p - c) (q - c) L):=by
 induction w with
 | nil p=>exact ⟨fun h=>⟨h,.nil p⟩,fun h=>⟨h,.nil _⟩⟩
 | @cons r q L hr _ ih=>
  rcases List.mem_append.mp hr with h | h
  .obtain ⟨⟨_,h2⟩,_,h4⟩:=ha r h;obtain ⟨h5,h6⟩:=ih.1 h4;exact ⟨fun _=>⟨h5,.cons h h6⟩,fun z=>by omega⟩
  .obtain ⟨s,hs,rfl⟩:=List.mem_map.mp h;obtain ⟨⟨h1,_⟩,h3,_⟩:=hb s hs;have e1:(up c s).1=s.1+c:=rfl;have e2:(up c s).2.1=s.2.1+c:=rfl;obtain ⟨h5,h6⟩:=ih.2 (by omega);rw[e2,show s.2.1+c - c=s.2.1 by omega] at h6;refine ⟨fun z=>by omega,fun _=>⟨h5, ?_⟩⟩;rw[e1,show s.1+c - c=s.1 by omega];exact .cons (r:=s) hs h6
theorem zff (ha:In c a) (hb:In d b) (Ta:Taut a) (Tb:Taut b):Taut (side c a b):=fun p L w=>by
 by_cases h:p < c
 .exact Ta _ _ ((zds ha hb w).1 h).2
 .exact Tb _ _ ((zds ha hb w).2 (by omega)).2
theorem zlv (ha:zaL c a) (hb:zaL d b) (h1:c+d<=20) (h2:a.length+b.length<=60):zaL (c+d) (side c a b):=by
 have a0:=ha.n0;have b0:=hb.n0;refine ⟨by omega,h1,by unfold side;simp;omega,fun r hr=>?_⟩;rcases List.mem_append.mp hr with h | h
 .have:=ha.rd r h
  obtain ⟨⟨_,_⟩,⟨_,_⟩,_⟩:=this;exact ⟨⟨by omega,by omega⟩,⟨by omega,by omega⟩,by assumption⟩
 .obtain ⟨s,hs,rfl⟩:=List.mem_map.mp h
  have:=hb.rd s hs
  obtain ⟨⟨_,_⟩,⟨_,_⟩,_⟩:=this;exact ⟨⟨by unfold up;dsimp only;omega,by unfold up;dsimp only;omega⟩,⟨by unfold up;dsimp only;omega,by unfold up;dsimp only;omega⟩,by assumption⟩
theorem zrq (ha:In c a) (hb:In d b) (hp:p < c) (h:Dist a p q L):Dist (side c a b) p q L:=⟨wk_l h.1,fun M w=>h.2 _ ((zds ha hb w).1 hp).2⟩
theorem zru (ha:In c a) (hb:In d b) (hp:0<=p) (h:Dist b p q L):Dist (side c a b) (p+c) (q+c) L:=⟨wk_r h.1,fun M w=>h.2 _ (by
 have:=((zds ha hb w).2 (by omega)).2
 rwa [show p+c - c=p by omega,show q+c - c=q by omega] at this)⟩
theorem wk_x (ha:In c a) (hb:In d b) (h1:r.1 < c) (h2:c<=r.2.1) (w:Wk (side c a b++[r]) p q L):(p < c->(q < c/\Wk a p q L)\/(c<=q/\∃A B,Wk a p r.1 A/\Wk b (r.2.1 - c) (q - c) B/\L=A+r.2.2+B))/\(c<=p->c<=q/\Wk b (p - c) (q - c) L):=by
 induction w with
 | nil p=>exact ⟨fun h=>.inl ⟨h,.nil p⟩,fun h=>⟨h,.nil _⟩⟩
 | @cons s q L hs _ ih=>
  rcases List.mem_append.mp hs with h | h
  .rcases List.mem_append.mp h with h | h
   .obtain ⟨⟨_,g2⟩,_,g4⟩:=ha s h;refine ⟨fun _=>?_,fun z=>by omega⟩;rcases ih.1 g4 with ⟨h5,h6⟩ | ⟨h5,A,B,u,v,e⟩
    .exact .inl ⟨h5,.cons h h6⟩
    .exact .inr ⟨h5,_,B,.cons h u,v,by omega⟩
   .obtain ⟨s,hm,rfl⟩:=List.mem_map.mp h;obtain ⟨⟨g1,_⟩,g3,_⟩:=hb s hm;have e1:(up c s).1=s.1+c:=rfl;have e2:(up c s).2.1=s.2.1+c:=rfl;obtain ⟨h5,h6⟩:=ih.2 (by omega);rw[e2,show s.2.1+c - c=s.2.1 by omega] at h6;refine ⟨fun z=>by omega,fun _=>⟨h5, ?_⟩⟩;rw[e1,show s.1+c - c=s.1 by omega];exact .cons (r:=s) hm h6
  .obtain rfl:=List.mem_singleton.mp h;obtain ⟨h5,h6⟩:=ih.2 h2;exact ⟨fun _=>.inr ⟨h5,0,L,.nil _,h6,by omega⟩,fun z=>by omega⟩
theorem zqE (ha:In c a) (hb:In d b) (Ta:Taut a) (Tb:Taut b) (h1:r.1 < c) (h2:c<=r.2.1):Taut (side c a b++[r]):=fun p L w=>by
 by_cases h:p < c
 .rcases (wk_x ha hb h1 h2 w).1 h with ⟨_,u⟩ | ⟨z,_⟩
  .exact Ta _ _ u
  .omega
 .exact Tb _ _ ((wk_x ha hb h1 h2 w).2 (by omega)).2
theorem znA (ha:In c a) (hb:In d b) (h1:r.1 < c) (h2:c<=r.2.1) (hp:c<=p) (hq:q < c):∀M,¬Wk (side c a b++[r]) p q M:=fun M w=>by
 have:=((wk_x ha hb h1 h2 w).2 hp).1
 omega
theorem x_l (ha:In c a) (hb:In d b) (h1:r.1 < c) (h2:c<=r.2.1) (hp:p < c) (h:Dist a p q L) (hq:q < c):Dist (side c a b++[r]) p q L:=⟨(wk_l h.1).sub fun _ z=>List.mem_append_left _ z,fun M w=>by
 rcases (wk_x ha hb h1 h2 w).1 hp with ⟨_,u⟩ | ⟨z,_⟩
 .exact h.2 _ u
 .omega⟩
theorem x_r (ha:In c a) (hb:In d b) (h1:r.1 < c) (h2:c<=r.2.1) (hp:0<=p) (h:Dist b p q L):Dist (side c a b++[r]) (c+p) (c+q) L:=⟨by
 have:=(wk_r (c:=c) (a:=a) h.1).sub (rs':=side c a b++[r]) fun _ z=>List.mem_append_left _ z
 rwa [Int.add_comm p c,Int.add_comm q c] at this,fun M w=>h.2 _ (by
 have:=((wk_x ha hb h1 h2 w).2 (by omega)).2
 rwa [show c+p - c=p by omega,show c+q - c=q by omega] at this)⟩
theorem znr (ha:In c a) (hb:In d b) (h1:r.1 < c) (h2:c<=r.2.1) {A B:Int} (hp:p < c) (hq:0<=q) (h:Dist a p r.1 A) (g:Dist b (r.2.1 - c) q B):Dist (side c a b++[r]) p (c+q) (A+r.2.2+B):=⟨by
 have u:Wk (side c a b++[r]) p r.1 A:=(wk_l h.1).sub fun _ z=>List.mem_append_left _ z
 have v:Wk (side c a b++[r]) r.2.1 (c+q) B:=by
  have:=(wk_r (c:=c) (a:=a) g.1).sub (rs':=side c a b++[r]) fun _ z=>List.mem_append_left _ z
  rwa [show r.2.1 - c+c=r.2.1 by omega,Int.add_comm q c] at this
 exact (u.trans ((Wk.one (List.mem_append_right _ (List.mem_singleton_self r))).trans v)).cast (by omega),fun M w=>by
 rcases (wk_x ha hb h1 h2 w).1 hp with ⟨z,_⟩ | ⟨_,A',B',u,v,e⟩
 .omega
 .rw[show c+q - c=q by omega] at v
  have:=h.2 _ u
  have:=g.2 _ v
  omega⟩
theorem zql (ha:In c a) (hb:In d b) (h1:r.1 < c) (h2:c<=r.2.1) (hp:p < c) (hq:0<=q) (h:(∀A,¬Wk a p r.1 A)\/∀B,¬Wk b (r.2.1 - c) q B):∀M,¬Wk (side c a b++[r]) p (c+q) M:=fun M w=>by
 rcases (wk_x ha hb h1 h2 w).1 hp with ⟨z,_⟩ | ⟨_,A',B',u,v,e⟩
 .omega
 .rw[show c+q - c=q by omega] at v;rcases h with h | h
  .exact h _ u
  .exact h _ v
theorem zmb (ha:In c a) (hb:In d b) (hp:p < c) (hq:c<=q):∀M,¬Wk (side c a b) p q M:=fun M w=>by
 have:=((zds ha hb w).1 hp).1
 omega
theorem zo1 (ha:In c a) (hb:In d b) (hp:c<=p) (hq:q < c):∀M,¬Wk (side c a b) p q M:=fun M w=>by
 have:=((zds ha hb w).2 hp).1
 omega
end
theorem ziF {n:Int} {rs:List Road} {ρ:Rho} {j:Nat} (h:ρ[j]? = some (.d (netD n rs))):gIx ρ (.at j []) 0=some (.own (.d (.int n))):=by
 rw[zd2,h];exact rfl
def zhM (n m:Nat) (A B:Tab):Tab:=A.map (fun r=>r++List.replicate m none)++B.map fun r=>List.replicate n none++r
theorem zmN {n m:Nat} {A B:Tab} (ha:Shape n A) (hb:Shape m B):Shape (n+m) (zhM n m A B):=⟨by simp[zhM,ha.len,hb.len],fun r hr=>by
 rcases List.mem_append.mp hr with h | h
 .obtain ⟨s,hs,rfl⟩:=List.mem_map.mp h;simp[ha.row s hs]
 .obtain ⟨s,hs,rfl⟩:=List.mem_map.mp h;simp[hb.row s hs]⟩
theorem zjL (l:Nat) (j:Nat):((List.replicate l (none:Option Int))[j]?).getD none=none:=by
 rw[List.getElem?_replicate];split<;>rfl
theorem zoI {n m:Nat} {A B:Tab} (ha:Shape n A) {i j:Nat} (hi:i < n):cell (zhM n m A B) i j=if j < n then cell A i j else none:=by
 have hl:i < A.length:=by rw[ha.len];exact hi
 have l1:=ha.row _ (List.getElem_mem hl);unfold cell zhM;rw[List.getElem?_append_left (by simp;exact hl),List.getElem?_map,List.getElem?_eq_getElem hl];dsimp only[Option.map_some,Option.getD_some];split
 .rw[List.getElem?_append_left (by omega)]
 .rw[List.getElem?_append_right (by omega),zjL]
theorem zpl {n m:Nat} {A B:Tab} (ha:Shape n A) (hb:Shape m B) {i j:Nat} (hi:i < m):cell (zhM n m A B) (n+i) j=if j < n then none else cell B i (j - n):=by
 have hl:i < B.length:=by rw[hb.len];exact hi
 unfold cell zhM;rw[List.getElem?_append_right (by simp[ha.len]),List.getElem?_map];rw[show n+i - (A.map fun r=>r++List.replicate m none).length=i by simp[ha.len],List.getElem?_eq_getElem hl];dsimp only[Option.map_some,Option.getD_some];split
 .rw[List.getElem?_append_left (by simp;omega),zjL]
 .rw[List.getElem?_append_right (by simp;omega),List.length_replicate]
theorem znj {x y:Option Int} (h:∀d,x=some d↔y=some d):x=y:=by
 cases x with
 | some d=>exact ((h d).mp rfl).symm
 | none=>
  cases y with
  | none=>rfl
  | some d=>exact (h d).mpr rfl
theorem zmz {c d:Int} {a b:List Road} (ha:zaL c a) (hb:zaL d b) (ok:zaL (c+d) (side c a b)) (Ta:Taut a) (Tb:Taut b):zaP (c+d).toNat (side c a b)=zhM c.toNat d.toNat (zaP c.toNat a) (zaP d.toNat b):=by
 have c0:=ha.n0;have d0:=hb.n0;have T:=zff (zf6 ha) (zf6 hb) Ta Tb;have ia:=zf6 ha;have ib:=zf6 hb;have sa:=zcp c.toNat a;have sb:=zcp d.toNat b;have S:=zmN sa sb;rw[<-Int.toNat_add c0 d0] at S;refine znZ (zcp _ _) S fun i j hi hj=>?_
 have ci:=fun e:Int=>zbu (p:=(i:Int)) (q:=(j:Int)) ok T (by omega) (by omega) (d:=e)
 rw[Int.toNat_natCast,Int.toNat_natCast] at ci
 by_cases h:i < c.toNat
 .rw[zoI sa h];refine znj fun e=>(ci e).trans ?_
  split
  .have:=zbu (p:=(i:Int)) (q:=(j:Int)) ha Ta (by omega) (by omega) (d:=e)
   rw[Int.toNat_natCast,Int.toNat_natCast] at this;rw[this];exact ⟨fun D=>⟨((zds ia ib D.1).1 (by omega)).2,fun M w=>D.2 _ (wk_l w)⟩,fun D=>zrq ia ib (by omega) D⟩
  .exact ⟨fun D=>absurd D.1 (zmb ia ib (by omega) (by omega) _),fun z=>by cases z⟩
 .obtain ⟨k,rfl⟩:∃k,i=c.toNat+k:=⟨i - c.toNat,by omega⟩;rw[zpl sa sb (by omega)];refine znj fun e=>(ci e).trans ?_
  split
  .exact ⟨fun D=>absurd D.1 (zo1 ia ib (by omega) (by omega) _),fun z=>by cases z⟩
  .have:=zbu (p:=(k:Int)) (q:=((j - c.toNat:Nat):Int)) hb Tb (by omega) (by omega) (d:=e)
   rw[Int.toNat_natCast,Int.toNat_natCast] at this;rw[this];have e1:((c.toNat+k:Nat):Int)=(k:Int)+c:=by omega
   have e2:(j:Int)=((j - c.toNat:Nat):Int)+c:=by omega
   rw[e1,e2];exact ⟨fun D=>⟨by
    have:=((zds ia ib D.1).2 (by omega)).2
    rwa [show (k:Int)+c - c=k by omega,Int.add_sub_cancel] at this,fun M w=>D.2 _ (wk_r w)⟩,fun D=>zru ia ib (by omega) D⟩
def IsH (rs:List Road) (v x:Int):Prop:=(∃p,Wk rs p v x)/\∀p M,Wk rs p v M->x<=M
theorem IsH.uniq {rs:List Road} {v x y:Int} (h:IsH rs v x) (g:IsH rs v y):x=y:=by
 obtain ⟨⟨p,hp⟩,h2⟩:=h;obtain ⟨⟨q,hq⟩,g2⟩:=g
 have:=h2 _ _ hq
 have:=g2 _ _ hp
 omega
theorem zpN {n:Int} {rs:List Road} (ok:zaL n rs) (T:Taut rs) (v:Int):IsH rs v ((zaB n.toNat rs fun _=>0).h v):=by
 have B:=zdt n.toNat rs (fun _=>0);have P:=(zcQ ok T (fun _=>0)).2;generalize zaB n.toNat rs (fun _=>0)=l at *;refine ⟨?_,fun p M w=>?_⟩
 .obtain ⟨u,L,w,hL⟩:=B.snd v;have h1:=P.wk w;have h2:=B.le u;exact ⟨u,w.cast (by omega)⟩
 .have h1:=P.wk w;have h2:=B.le p;omega
def hts (n:Int) (rs:List Road):List Int:=hsOf n.toNat (zaB n.toNat rs fun _=>0).h
theorem zjm {n:Int} {rs:List Road} (ok:zaL n rs) (T:Taut rs) {i:Nat} (hi:i < n.toNat):∃x,(hts n rs)[i]? = some x/\IsH rs i x:=
 ⟨(zaB n.toNat rs fun _=>0).h i,by unfold hts hsOf;rw[List.getElem?_map,List.getElem?_range hi];rfl,zpN ok T _⟩
theorem zeE (n:Int) (rs:List Road):(hts n rs).length=n.toNat:=by simp[hts,hsOf]
theorem zm0 {c d:Int} {a b:List Road} (ha:zaL c a) (hb:zaL d b) (ok:zaL (c+d) (side c a b)) (Ta:Taut a) (Tb:Taut b):hts (c+d) (side c a b)=hts c a++hts d b:=by
 have c0:=ha.n0;have d0:=hb.n0;have T:=zff (zf6 ha) (zf6 hb) Ta Tb;have ia:=zf6 ha;have ib:=zf6 hb;apply List.ext_getElem?;intro i
 by_cases hi:i < (c+d).toNat
 .obtain ⟨x,hx,X⟩:=zjm ok T hi;rw[hx]
  by_cases h:i < c.toNat
  .obtain ⟨y,hy,Y⟩:=zjm ha Ta h;rw[List.getElem?_append_left (by rw[zeE];exact h),hy];refine congrArg some (Y.uniq ⟨?_,fun p M w=>X.2 p M (wk_l w)⟩).symm;obtain ⟨⟨p,hp⟩,_⟩:=X
   by_cases z:p < c
   .exact ⟨p,((zds ia ib hp).1 z).2⟩
   .have:=((zds ia ib hp).2 (by omega)).1
    omega
  .obtain ⟨y,hy,Y⟩:=zjm (i:=i - c.toNat) hb Tb (by omega);rw[List.getElem?_append_right (by rw[zeE];omega),zeE,hy];have e:((i - c.toNat:Nat):Int)=i - c:=by omega
   rw[e] at Y;refine congrArg some (Y.uniq ⟨?_,fun p M w=>X.2 (p+c) M (by
    have:=wk_r (c:=c) (a:=a) w
    rwa [Int.sub_add_cancel] at this)⟩).symm
   obtain ⟨⟨p,hp⟩,_⟩:=X
   by_cases z:p < c
   .have:=((zds ia ib hp).1 z).1
    omega
   .exact ⟨p - c,((zds ia ib hp).2 (by omega)).2⟩
 .rw[List.getElem?_eq_none (by rw[zeE];omega),List.getElem?_eq_none (by rw[List.length_append,zeE,zeE];omega)]
theorem zpT {n c:Int} {rs:List Road} (hl:rs.length<=60):zbV [.d (netD n rs),.d (.int c)]=.ok (.l (((rs.map (up c)).map zar).map O.d)) []:=by
 obtain ⟨q,e⟩:=zfy (js:=[none,some 1]) (G:=gtN 0) (T:=gRet true) (A:=zdA) (ρ:=[.d (netD n rs),.d (.int c)]) (fun _=>true) (fun o=>match o with | .d (.tuple [.int a,.int b,.int l])=>.d (zar (up c (a,b,l))) | _=>.z) (items:=(rs.map zar).map O.d) (acc:=[]) (q:=true) (fun y hy=>by
  rw[List.map_map] at hy;obtain ⟨r,hr,rfl⟩:=List.mem_map.mp hy;have g0:gIx [.d (zar r),.d (.int c)] (.at 0 []) 0=some (.own (.d (.int r.1))):=rfl;have g1:gIx [.d (zar r),.d (.int c)] (.at 0 []) 1=some (.own (.d (.int r.2.1))):=rfl;have g2:gIx [.d (zar r),.d (.int c)] (.at 0 []) 2=some (.own (.d (.int r.2.2))):=rfl;have rd:mkT [.d (.int (r.1+c)),.d (.int (r.2.1+c)),.d (.int r.2.2)]=.d (zar (up c r)):=rfl;have main:∃q,zdA [.d (zar r),.d (.int c)]=.ok (.own (.d (zar (up c r)))) [.d (zar r),.d (.int c)] q:=by
   generalize zar (up c r)=R at *;generalize zar r=S at *;exact ⟨_,zaK (zad (zax (zbb rfl (zaN rfl rfl rfl) rfl g0) rfl rfl rfl rfl rfl) (zad (zax (zbb rfl (zaN rfl rfl rfl) rfl g1) rfl rfl rfl rfl rfl) (zad (zbb rfl (zaN rfl rfl rfl) rfl g2) rfl rfl) rfl) rfl) rfl (Nat.le_of_ble_eq_true rfl) rd⟩
  obtain ⟨q,g⟩:=main;exact ⟨[.d (zar r),.d (.int c)],_,true,rfl,rfl,fun _=>⟨_,_,q,[.d (zar r),.d (.int c)],g,rfl,rfl⟩,fun h=>by cases h⟩)
 have em:((rs.map zar).map O.d).map (fun o=>match o with | .d (.tuple [.int a,.int b,.int l])=>O.d (zar (up c (a,b,l))) | _=>.z)=((rs.map (up c)).map zar).map O.d:=by
  rw[List.map_map,List.map_map,List.map_map,List.map_map];rfl
 rw[F29.zdc,List.nil_append,em] at e;have gn:=zf0 (n:=n) (rs:=rs) (ρ:=[.d (netD n rs),.d (.int c)]) (j:=0) rfl;have ei:eIx (zab 0) (eC (.int 1)) [.d (netD n rs),.d (.int c)]=.ok (.own (.d (.list (rs.map zar)))) [.d (netD n rs),.d (.int c)] (true&&true):=zbb rfl (zaN rfl rfl rfl) rfl gn;have es:srcM true (fun ds=>ds.map O.d) (eIx (zab 0) (eC (.int 1))) [.d (netD n rs),.d (.int c)]=.ok (((rs.map zar).map O.d,none),true) [.d (netD n rs),.d (.int c)] (true&&true):=by
  unfold srcM;rw[ei];simp[zf7,cov]
 have hll:((rs.map zar).map O.d).length<=sizeLine:=zbR (by simp;omega);generalize ((rs.map (up c)).map zar).map O.d=Z at *;generalize (rs.map zar).map O.d=Y at *;generalize netD n rs=N at *;exact zbX rfl (zbm (F24.zjW es hll e rfl) rfl) rfl
def flD (v:Int):PyData:=.tuple [.str "fall",.int v]
def frD (xs:List Int):PyData:=.tuple [.str "free",zb2 xs]
def FlIs (rs:List Road) (c:Int) (r:Road) (D:PyData):Prop:=
 (∃e,Dist rs r.2.1 r.1 e/\D=flD (r.2.2+e))\/
 ((∀M,¬Wk rs r.2.1 r.1 M)/\∃S:List Int,S.Nodup/\S.Pairwise (·<=·)/\(∀v,v∈S↔∃L,Wk rs r.2.1 (v - c) L)/\D=frD S)
theorem FlIs.uniq {rs:List Road} {c:Int} {r:Road} {D E:PyData} (h:FlIs rs c r D) (g:FlIs rs c r E):D=E:=by
 rcases h with ⟨x,hx,rfl⟩ | ⟨h,S,s1,s2,s3,rfl⟩
 .rcases g with ⟨y,hy,rfl⟩ | ⟨g,_⟩
  .rw[hx.uniq hy]
  .exact absurd hx.1 (g _)
 .rcases g with ⟨y,hy,rfl⟩ | ⟨g,S',t1,t2,t3,rfl⟩
  .exact absurd hy.1 (h _)
  .rw[zgr ((List.perm_ext_iff_of_nodup s1 t1).mpr fun v=>(s3 v).trans (t3 v).symm) s2 t2]
theorem fl_l {c d:Int} {a b:List Road} {r:Road} {D:PyData} (ha:In c a) (hb:In d b) (hr:r∈a) (h:FlIs (side c a b) 0 r D):FlIs a 0 r D:=by
 obtain ⟨⟨_,r1⟩,_,r2⟩:=ha r hr;rcases h with ⟨x,hx,rfl⟩ | ⟨h,S,s1,s2,s3,rfl⟩
 .exact .inl ⟨x,⟨((zds ha hb hx.1).1 r2).2,fun M w=>hx.2 _ (wk_l w)⟩,rfl⟩
 .exact .inr ⟨fun M w=>h M (wk_l w),S,s1,s2,fun v=>(s3 v).trans ⟨fun ⟨L,w⟩=>⟨L,((zds ha hb w).1 r2).2⟩,fun ⟨L,w⟩=>⟨L,wk_l w⟩⟩,rfl⟩
theorem fl_r {c d:Int} {a b:List Road} {r:Road} {D:PyData} (ha:In c a) (hb:In d b) (hr:r∈b) (h:FlIs (side c a b) 0 (up c r) D):FlIs b c r D:=by
 obtain ⟨⟨r0,_⟩,r2,_⟩:=hb r hr;have e1:(up c r).1=r.1+c:=rfl;have e2:(up c r).2.1=r.2.1+c:=rfl;have e3:(up c r).2.2=r.2.2:=rfl;unfold FlIs at h;rw[e1,e2,e3] at h;have back:∀v M,Wk (side c a b) (r.2.1+c) v M->Wk b r.2.1 (v - c) M:=fun v M w=>by
  have:=((zds ha hb w).2 (by omega)).2
  rwa [show r.2.1+c - c=r.2.1 by omega] at this
 have on:∀v M,Wk b r.2.1 (v - c) M->Wk (side c a b) (r.2.1+c) v M:=fun v M w=>by
  have:=wk_r (c:=c) (a:=a) w
  rwa [show v - c+c=v by omega] at this
 rcases h with ⟨x,hx,rfl⟩ | ⟨h,S,s1,s2,s3,rfl⟩
 .refine .inl ⟨x,⟨?_,fun M w=>hx.2 _ (wk_r w)⟩,rfl⟩
  have:=back _ _ hx.1
  rwa [show r.1+c - c=r.1 by omega] at this
 .exact .inr ⟨fun M w=>h M (wk_r w),S,s1,s2,fun v=>(s3 v).trans ⟨fun ⟨L,w⟩=>⟨L,back _ _ (by rwa [Int.sub_zero] at w)⟩,fun ⟨L,w⟩=>⟨L,by rw[Int.sub_zero];exact on _ _ w⟩⟩,rfl⟩
theorem zoK {R:List Int} (h:R.Nodup):(zd4 R).Nodup:=(zcy R).nodup_iff.mpr h
theorem zoE {n c:Int} {rs:List Road} {r:Road} {R:List Int} (no:∀M,¬Wk rs r.2.1 r.1 M) (h:Rch n rs r.2.1 R):FlIs rs c r (frD ((zd4 R).map (·+c))):=by
 refine .inr ⟨no,_, ?_, ?_,fun v=>?_,rfl⟩
 .exact List.Pairwise.map _ (fun x y (z:x≠y)=>by omega) (zoK h.nd)
 .exact List.Pairwise.map _ (fun x y (z:x<=y)=>by omega) (zhB R)
 .rw[List.mem_map];exact ⟨fun hx__=>by
   obtain ⟨x,hx,e⟩:=hx__
   have:v - c=x:=by omega
   rw[this];exact (h.mem x).mp ((zcy R).mem_iff.mp hx),fun z=>⟨v - c,(zcy R).mem_iff.mpr ((h.mem _).mpr z),by omega⟩⟩
theorem zhp:∀xs:List Int,PyData.canLayAll0 (xs.map PyData.int)=true/\PyData.depthAll (xs.map PyData.int)=0
 | []=>by simp[PyData.canLayAll0,PyData.depthAll]
 | x::xs=>by simp[PyData.canLayAll0,PyData.depthAll,PyData.canLay0,PyData.depth,zhp xs]
theorem zjA:PyData.strOk (Str.ofString "fall")=true:=by decide +kernel
theorem zgd:PyData.strOk (Str.ofString "free")=true:=by decide +kernel
theorem FlIs.lay {rs:List Road} {c:Int} {r:Road} {D:PyData} (h:FlIs rs c r D):D.canLay0=true/\D.depth<=2:=by
 rcases h with ⟨x,hx,rfl⟩ | ⟨h,S,_,_,_,rfl⟩
 .simp[flD,PyData.canLay0,PyData.canLayAll0,PyData.depth,PyData.depthAll,zjA]
 .have l:=zhp S;simp[frD,zb2,PyData.canLay0,PyData.canLayAll0,PyData.depth,PyData.depthAll,zgd,l.1,l.2]
theorem zkG:∀{ds:List PyData},(∀D∈ds,D.canLay0=true/\D.depth<=2)->PyData.canLayAll0 ds=true/\PyData.depthAll ds<=2
 | [],_=>by simp[PyData.canLayAll0,PyData.depthAll]
 | D::ds,h=>by
  have a:=h D List.mem_cons_self;have b:=zkG fun E hE=>h E (List.mem_cons_of_mem _ hE)
  simp only[PyData.canLayAll0,PyData.depthAll,a.1,b.1,Bool.and_self,true_and]
  have:=a.2
  have:=b.2
  omega
theorem zli {ds:List PyData} (h:∀D∈ds,D.canLay0=true/\D.depth<=2):SeqAt.shaped (.list ds)=true/\PyData.eqv (.list ds) (.list ds)=true:=by
 have l:=zkG h;have c:(PyData.list ds).canLay0=true:=by simp only[PyData.canLay0,l.1]
 refine ⟨?_,zfo _ c⟩;simp only[SeqAt.shaped,c,Bool.true_and,decide_eq_true_eq];simp only[PyData.depth]
 have:=l.2
 omega
theorem zjF:∀{os:List O} {ds:List PyData} {o:O} {d:PyData},fzs os=some ds->fz o=some d->fzs (os++[o])=some (ds++[d])
 | [],ds,o,d,h,g=>by
  cases h;simp[fzs,g]
 | x::xs,ds,o,d,h,g=>by
  rw[fzs] at h;split at h
  .rename_i a b e1 e2;cases h;rw[List.cons_append,fzs,e1,zjF e2 g];rfl
  .cases h
theorem zmp {s:Str} (h:PyData.strOk s=true):fEq false (.d (.str s)) (.d (.str s))=some (.d (.bool true)):=by
 have:=zjY h
 unfold fEq at this ⊢;simp only[fz_d] at this ⊢
 revert this
 cases SeqAt.shaped (.str s)<;>cases PyData.eqv (.str s) (.str s)<;>simp
theorem zly:fEq false (.d (.str "free")) (.d (.str "free"))=some (.d (.bool true)):=zmp zgd
theorem zlr:fEq false (.d (.str "fall")) (.d (.str "free"))=some (.d (.bool false)):=zlx zjA zgd false (by decide +kernel)
theorem zqF {w0 w2 w3:O} {c:Int} {S:List Int} (hl:S.length<=1000) :
  ∃q,eLS (srcM true (fun ds=>ds.map O.d) (eIx (zab 4) (eC (.int 1)))) [none,some 1] (gtN 0) (gRet true) zbE [w0,.d (.int c),w2,w3,.t [.d (.str "free"),zal S]]=.ok (.own (zal (S.map (·+c)))) [w0,.d (.int c),w2,w3,.t [.d (.str "free"),zal S]] q:=by
 obtain ⟨q,e⟩:=zfy (js:=[none,some 1]) (G:=gtN 0) (T:=gRet true) (A:=zbE) (ρ:=[w0,.d (.int c),w2,w3,.z]) (fun _=>true) (F29.onI (·+c)) (items:=(S.map PyData.int).map O.d) (acc:=[]) (q:=true) (fun o ho=>by
  rw[List.map_map] at ho;obtain ⟨x,hx,rfl⟩:=List.mem_map.mp ho;exact ⟨[.d (.int x),.d (.int c)],[.d (.int x),.d (.int c)],true,rfl,rfl,(fun _=>⟨.own (.d (.int (x+c))),[.d (.int x),.d (.int c)],_,[.d (.int x),.d (.int c)],zax rfl rfl rfl rfl rfl rfl,rfl,rfl⟩),(fun h=>by cases h)⟩)
 rw[F29.zdc,List.nil_append,F29.zn0] at e;have hm:S.map (fun r=>O.d (.int r))=(S.map PyData.int).map O.d:=by rw[List.map_map];rfl
 have vp:zf7 [w0,.d (.int c),w2,w3,.t [.d (.str "free"),zal S]] (.at 4 [1])=some (S.map PyData.int,true,4,.t [.d (.str "free"),zal S]):=by
  unfold zal;rw[hm];simp[zf7,sub,-List.map_map]
 have hx:eIx (zab 4) (eC (.int 1)) [w0,.d (.int c),w2,w3,.t [.d (.str "free"),zal S]]=.ok (.at 4 [1]) [w0,.d (.int c),w2,w3,.t [.d (.str "free"),zal S]] (true&&true):=zbb rfl (zaN rfl rfl rfl) rfl rfl;have sr:srcM true (fun ds=>ds.map O.d) (eIx (zab 4) (eC (.int 1))) [w0,.d (.int c),w2,w3,.t [.d (.str "free"),zal S]]=.ok (((S.map PyData.int).map O.d,some (4,.t [.d (.str "free"),zal S])),true) [w0,.d (.int c),w2,w3,.z] true:=by
  unfold srcM;rw[hx];dsimp only[Re.bind];rw[vp];rfl
 exact ⟨_,F24.zjW sr (zbR (by simp;omega)) e rfl⟩
theorem zpa {N:PyData} {k c:Int} {w4:O} {os:List O} {S:List Int} (h:zbe [.d N,.d (.int k)]=.ok (.t [.d (.str "free"),zal S]) []) (hs:S.length<=1000) (hl:os.length < sizeLine) :
  ∃z,zbj [.d N,.d (.int c),.l os,.d (.int k),w4]=.nx [.d N,.d (.int c),.l (os++[.t [.d (.str "free"),zal (S.map (·+c))]]),.d (.int k),z]:=by
 obtain ⟨q,g⟩:=zqF (w0:=.d N) (w2:=.l os) (w3:=.d (.int k)) (c:=c) hs;unfold zal at *;generalize S.map (fun h=>O.d (PyData.int h))=X at *;generalize (S.map (·+c)).map (fun h=>O.d (PyData.int h))=Y at *;unfold zbj;generalize zbE=A at *;generalize zbe=F at *;exact ⟨_,L2.zaq (zaE (zaA (zad rfl (zad rfl rfl rfl) rfl) rfl h rfl rfl) rfl rfl) (if_t (za4 (zax (zbb rfl (zaN rfl rfl rfl) rfl rfl) rfl rfl rfl rfl zly) rfl) (zbv (zgu rfl rfl (zaK (zad rfl (zad g rfl rfl) rfl) rfl (Nat.le_of_ble_eq_true rfl) rfl) rfl rfl (zdu rfl hl))))⟩
theorem zoW {N:PyData} {k c v:Int} {w4:O} {os xs ys:List O} (h:zbe [.d N,.d (.int k)]=.ok (.t [.d (.str "fall"),.d (.int v),.l xs,.l ys]) []) (hl:os.length < sizeLine) :
  ∃z,zbj [.d N,.d (.int c),.l os,.d (.int k),w4]=.nx [.d N,.d (.int c),.l (os++[.d (flD v)]),.d (.int k),z]:=by
 unfold zbj;generalize zbE=A at *;generalize zbe=F at *;exact ⟨_,L2.zaq (zaE (zaA (zad rfl (zad rfl rfl rfl) rfl) rfl h rfl rfl) rfl rfl) (if_f (za4 (zax (zbb rfl (zaN rfl rfl rfl) rfl rfl) rfl rfl rfl rfl zlr) rfl) (zbv (zgu rfl rfl (zaK (zad rfl (zad (zbb rfl (zaN rfl rfl rfl) rfl rfl) rfl rfl) rfl) rfl (Nat.le_of_ble_eq_true rfl) rfl) rfl rfl (zdu rfl hl))))⟩
theorem zoa (S:List Int):fz (.t [.d (.str "free"),zal S])=some (frD S):=zjs (zdY S)
def Fls (rs:List Road) (c:Int) (ds:List PyData):Prop:=ds.length=rs.length/\∀(i:Nat) (r:Road) (D:PyData),rs[i]? = some r->ds[i]? = some D->FlIs rs c r D
theorem zhy {n c:Int} {rs:List Road} (ok:zaL n rs) (T:Taut rs):∃os ds,za8 [.d (netD n rs),.d (.int c)]=.ok (.l os) []/\fz (.l os)=some (.list ds)/\Fls rs c ds:=by
 have n1:=ok.n1;have rl:=ok.len;have it:=F30.zoQ (n:=n) (rs:=rs) (ρ:=[.d (netD n rs),.d (.int c),.l [],.z,.z]) rfl;have okr:okR (rs.length:Int)=true:=zeA (by omega) (by omega);obtain ⟨ρ',st,os,ds,z3,z4,rfl,f,l1,l2,h⟩:=zcK (G:=gtN 3) (S:=zbj) (items:=rngO 0 rs.length) (ρ:=[.d (netD n rs),.d (.int c),.l [],.z,.z])
  (fun i ρ=>∃os ds z3 z4,ρ=[.d (netD n rs),.d (.int c),.l os,z3,z4]/\fzs os=some ds/\os.length=i/\ds.length=i/\∀(j:Nat) (r:Road) (D:PyData),rs[j]? = some r->ds[j]? = some D->FlIs rs c r D) ⟨_,_,_,_,rfl,rfl,rfl,rfl,fun j r D _ h=>by cases h⟩
  (fun i x ρ hx hx__=>by
   obtain ⟨os,ds,z3,z4,e,f,l1,l2,h⟩:=hx__;subst e;obtain ⟨hi,rfl⟩:=zdR hx;obtain ⟨r,hr⟩:∃r,rs[i]? = some r:=⟨_,List.getElem?_eq_getElem hi⟩;have ra:=zeQ hr;have lt:os.length < sizeLine:=zfb (by omega);have snoc:∀(o:O) (D:PyData),fz o=some D->FlIs rs c r D->fzs (os++[o])=some (ds++[D])/\(os++[o]).length=i+1/\(ds++[D]).length=i+1/\∀(j:Nat) (s:Road) (E:PyData),rs[j]? = some s->(ds++[D])[j]? = some E->FlIs rs c s E:=fun o D a b=>⟨zjF f a,by simp[l1],by simp[l2],fun j s E hs hE=>by
    by_cases z:j < i
    .rw[List.getElem?_append_left (by omega)] at hE;exact h j s E hs hE
    .rw[List.getElem?_append_right (by omega),l2] at hE
     have:j=i:=by
      have:=(List.getElem?_eq_some_iff.mp hE).1
      simp at this;omega
     subst this;rw[Nat.sub_self] at hE;cases hE;rw[hr] at hs;cases hs;exact b⟩
   have e0:((0+i:Nat):Int)=(i:Int):=by omega
   rw[show ((0:Int)+(i:Int))=(i:Int) by omega] at *;rcases F24.zlP ok T ra with ⟨no,R,e,hR⟩ | ⟨W,hs,lw,e⟩
   .have hl:=hR.len;have sl:(zd4 R).length=R.length:=(zcy R).length_eq;obtain ⟨z,g⟩:=zpa (c:=c) (w4:=z4) e (by omega) lt;exact ⟨_,_,rfl,g,_,_,_,_,rfl,snoc _ _ (zoa _) (zoE no hR)⟩
   .obtain ⟨z,g⟩:=zoW (c:=c) (w4:=z4) e lt;exact ⟨_,_,rfl,g,_,_,_,_,rfl,snoc _ _ (fz_d _) (.inl ⟨_,lw.ds,rfl⟩)⟩)
 rw[zcr] at l1 l2;have zod:=F24.zod;generalize netD n rs=N at *;refine ⟨os,ds, ?_,by rw[fz,f];rfl,l2,h⟩;exact zbX rfl (L2.zaq (zaE (zaK rfl rfl (Nat.le_of_ble_eq_true rfl) rfl) rfl rfl) (L2.zaq (zlg (zjM (zaN it rfl rfl) okr (Int.toNat_natCast _)) st) (zbm rfl rfl))) rfl
theorem zgw {a b:List PyData} (h:a.length+b.length<=1000):fAdd (.d (.list a)) (.d (.list b))=some (.l ((a++b).map O.d)):=by
 have hz:a.length+b.length<=sizeLine:=zbR (by omega);simp only[fAdd,els,ze2];rw[if_pos hz]
theorem znS {a b:List PyData} (h:a.length+b.length<=1000):fAdd (.d (.list a)) (.l (b.map O.d))=some (.l ((a++b).map O.d)):=by
 have hz:a.length+b.length<=sizeLine:=zbR (by omega);simp only[fAdd,els,ze2];rw[if_pos hz]
theorem zqk {ρ:Rho} {it:Rho->Re (List O)} {k:Nat} {q:Bool} (hk:k<=1000) (hi:it ρ=.ok (rngO 0 k) ρ q):∃q,eLC it [none] (gtN 0) (gRet true) (eC .none) ρ=.ok (.own (.l ((List.replicate k PyData.none).map O.d))) ρ q:=by
 obtain ⟨q,e⟩:=zfy (js:=[none]) (G:=gtN 0) (T:=gRet true) (A:=eC .none) (ρ:=ρ) (fun _=>true) (fun _=>.d .none) (items:=rngO 0 k) (acc:=[]) (q:=true) (fun y hy=>by
  refine ⟨[y],[y],true,rfl,rfl,fun _=>⟨_,_,_,[y],rfl,rfl, ?_⟩,fun h=>by cases h⟩
  rfl)
 have em:((rngO 0 k).map fun _=>O.d .none)=(List.replicate k PyData.none).map O.d:=by
  rw[List.map_const',zcr,List.map_replicate]
 rw[F29.zdc,List.nil_append,em] at e;exact ⟨_,zoc hi (zbR (by rw[zcr];omega)) e⟩
theorem zsy {d:Int} {b:List Road} {r:List (Option Int)} (d0:0<=d) (d1:d<=20) (hr:r.length<=100):∃q,zbO [.d (rowD r),.d (netD d b)]=.ok (.own (.l (((r.map optD)++List.replicate d.toNat PyData.none).map O.d))) [.d (rowD r),.d (netD d b)] q:=by
 have g0:=ziF (n:=d) (rs:=b) (ρ:=[.d (rowD r),.d (netD d b)]) (j:=1) rfl;have hi:itR1 (eIx (zab 1) (eC (.int 0))) [.d (rowD r),.d (netD d b)]=.ok (rngO 0 d.toNat) [.d (rowD r),.d (netD d b)] true:=by
  generalize netD d b=M at *;have ix:eIx (zab 1) (eC (.int 0)) [.d (rowD r),.d M]=.ok (.own (.d (.int d))) [.d (rowD r),.d M] (true&&true):=zbb rfl (zaN rfl rfl rfl) rfl g0;exact zjM (zaN ix rfl rfl) (zeA (by omega) (by omega)) rfl
 obtain ⟨q,e⟩:=zqk (by omega) hi;have f:fAdd (.d (rowD r)) (.d (.list (List.replicate d.toNat PyData.none)))=some (.l (((r.map optD)++List.replicate d.toNat PyData.none).map O.d)):=zgw (by simp;omega);have z:=zfS (List.replicate d.toNat PyData.none);generalize netD d b=M at *;generalize (List.replicate d.toNat PyData.none).map O.d=R at *;generalize PyData.list (List.replicate d.toNat PyData.none)=Q at *;generalize ((r.map optD)++List.replicate d.toNat PyData.none).map O.d=Z at *;generalize rowD r=Y at *;exact ⟨_,zax rfl (F29.zis e z) rfl rfl rfl f⟩
theorem zs0 {c:Int} {r:List (Option Int)} (c0:0<=c) (c1:c<=20) (hr:r.length<=100):∃q,zbS [.d (rowD r),.d (.int c)]=.ok (.own (.l ((List.replicate c.toNat PyData.none++(r.map optD)).map O.d))) [.d (rowD r),.d (.int c)] q:=by
 have hi:itR1 (zab 1) [.d (rowD r),.d (.int c)]=.ok (rngO 0 c.toNat) [.d (rowD r),.d (.int c)] true:=zjM (zaN rfl rfl rfl) (zeA (by omega) (by omega)) rfl;obtain ⟨q,e⟩:=zqk (by omega) hi;have f:fAdd (.d (.list (List.replicate c.toNat PyData.none))) (.d (rowD r))=some (.l ((List.replicate c.toNat PyData.none++(r.map optD)).map O.d)):=zgw (by simp;omega);have z:=zfS (List.replicate c.toNat PyData.none);generalize (List.replicate c.toNat PyData.none).map O.d=R at *;generalize PyData.list (List.replicate c.toNat PyData.none)=Q at *;generalize (List.replicate c.toNat PyData.none++(r.map optD)).map O.d=Z at *;generalize rowD r=Y at *;exact ⟨_,zax (F29.zis e z) rfl rfl rfl rfl f⟩
theorem zlk {A:EF} {T:Tab} {ρ:Rho} {o:O} {j:Nat} {I:Rho->Re (Src×Bool)} (f:List (Option Int)->List PyData) (hj:ρ[j]? = some o) (hp:zex [none,some j] ρ=[.z,o]) (hb:zdb [none,some j] [.z,o] (clrR [none,some j] ρ)=ρ) (hl:T.length<=1000)
  (hI:I ρ=.ok (((T.map rowD).map O.d,none),true) ρ false) (hA:∀r∈T,∃q,A [.d (rowD r),o]=.ok (.own (.l ((f r).map O.d))) [.d (rowD r),o] q) :
  ∃q,eLS I [none,some j] (gtN 0) (gRet true) A ρ=.ok (.own (.l (T.map fun r=>.l ((f r).map O.d)))) ρ q:=by
 obtain ⟨os',ρ',q',e,h⟩:=zlf (js:=[none,some j]) (G:=gtN 0) (T:=gRet true) (A:=A) (items:=(T.map rowD).map O.d) (ρ:=ρ) (acc:=[]) (q:=true) (fun i ρ' acc=>ρ'=ρ/\acc=(T.take i).map fun r=>.l ((f r).map O.d)) ⟨rfl,by simp⟩ (fun i x ρ' acc hx hx__=>by
  obtain ⟨h1,h2⟩:=hx__;subst h1 h2;rw[List.getElem?_map,List.getElem?_map] at hx;obtain ⟨y,hy,rfl⟩:=Option.map_eq_some_iff.mp hx;obtain ⟨r,hr,rfl⟩:=Option.map_eq_some_iff.mp hy;obtain ⟨q,a⟩:=hA r (List.mem_of_getElem? hr);refine ⟨[.d (rowD r),o],[.d (rowD r),o],true,true,by rw[hp];rfl,rfl,.inl ⟨rfl,_,_,_,_,_,a,rfl, ?_, ?_⟩⟩
  .exact hb
  .rw[List.take_add_one,hr,List.map_append]
   rfl)
 obtain ⟨rfl,rfl⟩:=h;rw[List.length_map,List.length_map,List.take_length] at e;exact ⟨_,F24.zjW hI (zbR (by simp;omega)) e rfl⟩
theorem zj2 {T:Tab} (f:List (Option Int)->List PyData):fz (.l (T.map fun r=>O.l ((f r).map O.d)))=some (.list (T.map fun r=>.list (f r))):=by
 have:∀T:Tab,fzs (T.map fun r=>O.l ((f r).map O.d))=some (T.map fun r=>.list (f r)):=by
  intro T
  induction T with
  | nil=>rfl
  | cons r T ih=>rw[List.map_cons,fzs,zfS,ih];rfl
 rw[fz,this];rfl
theorem zok (n m:Nat) (A B:Tab):tabD (zhM n m A B)=.list ((A.map fun r=>.list (r.map optD++List.replicate m .none))++B.map fun r=>.list (List.replicate n .none++r.map optD)):=by
 unfold tabD zhM rowD;rw[List.map_append,List.map_map,List.map_map]
 congr 2
 .apply List.map_congr_left;intro r _;simp[optD]
 .apply List.map_congr_left;intro r _;simp[optD]
theorem zmh {c d:Int} {a b:List Road} {ds d1 d2:List PyData} (ha:In c a) (hb:In d b) (h:Fls (side c a b) 0 ds) (h1:Fls a 0 d1) (h2:Fls b c d2):ds=d1++d2:=by
 have l:(side c a b).length=a.length+b.length:=by simp[side]
 obtain ⟨e,f⟩:=h;obtain ⟨e1,f1⟩:=h1;obtain ⟨e2,f2⟩:=h2;apply List.ext_getElem?;intro i
 by_cases hi:i < a.length+b.length
 .have hD:ds[i]? = some ds[i]:=List.getElem?_eq_getElem (by omega);rw[hD]
  by_cases z:i < a.length
  .have hr:a[i]? = some a[i]:=List.getElem?_eq_getElem z;have hE:d1[i]? = some d1[i]:=List.getElem?_eq_getElem (by omega);rw[List.getElem?_append_left (by omega),hE];have hs:(side c a b)[i]? = some a[i]:=by
    unfold side;rw[List.getElem?_append_left z,hr]
   exact congrArg some ((fl_l ha hb (List.getElem_mem z) (f i _ _ hs hD)).uniq (f1 i _ _ hr hE))
  .have z2:i - a.length < b.length:=by omega
   have hr:b[i - a.length]? = some b[i - a.length]:=List.getElem?_eq_getElem z2;have hE:d2[i - a.length]? = some d2[i - a.length]:=List.getElem?_eq_getElem (by omega);rw[List.getElem?_append_right (by omega),e1,hE];have hs:(side c a b)[i]? = some (up c b[i - a.length]):=by
    unfold side;rw[List.getElem?_append_right (by omega),List.getElem?_map,hr];rfl
   exact congrArg some ((fl_r ha hb (List.getElem_mem z2) (f i _ _ hs hD)).uniq (f2 _ _ _ hr hE))
 .rw[List.getElem?_eq_none (by omega),List.getElem?_eq_none (by rw[List.length_append];omega)]
theorem Fls.lay {rs:List Road} {c:Int} {ds:List PyData} (h:Fls rs c ds):∀D∈ds,D.canLay0=true/\D.depth<=2:=fun D hD=>by
 obtain ⟨i,hi⟩:=List.getElem?_of_mem hD;have hl:=(List.getElem?_eq_some_iff.mp hi).1;exact (h.2 i _ D (List.getElem?_eq_getElem (by rw[<-h.1];exact hl)) hi).lay
theorem zpD {A:EF} {ρ ρ1 ρ2:Rho} {r:Rv} {o:O} {q:Bool} (h:A ρ=.ok r ρ1 q) (c:coe ρ1 r=some (o,ρ2)):eFzN A ρ=.ok (.own o) ρ2 false:=by
 unfold eFzN;rw[h];dsimp only;rw[c]
section
variable {N M W Ld T T1 T2:PyData} {c d e:Int} {os xs x1 x2 xx ro ro2 tw fo1 fo2 fo:List O} {la l4 l5 ds d1 d2:List PyData} {q4 q5:Bool} {t4 t5:List O}
theorem zqn
  (g0:∀w2 w3 w4,gIx [.d N,.d M,w2,w3,w4] (.at 0 []) 0=some (.own (.d (.int c))))
  (g1:∀w2 w3 w4,gIx [.d N,.d M,w2,w3,w4] (.at 1 []) 0=some (.own (.d (.int d))))
  (gn:∀w2 w3 w4,gIx [.d N,.d M,w2,w3,w4] (.at 0 []) 1=some (.own (.d (.list la))))
  (on:zbV [.d M,.d (.int c)]=.ok (.l os) []) (fon:fz (.l os)=some Ld) (fa:fAdd (.d (.list la)) (.d Ld)=some (.l xs))
  (fw:fz (.t [.d (.int (c+d)),.l xs])=some W)
  (hw:zaT [.d W]=.ok (.t [.d (.str "heights"),.l x1]) []) (h1:zaT [.d N]=.ok (.t [.d (.str "heights"),.l x2]) []) (h2:zaT [.d M]=.ok (.t [.d (.str "heights"),.l xx]) [])
  (fh:fAdd (.l x2) (.l xx)=some (.l x1)) (fe:fEq true (.t [.d (.str "heights"),.l x1]) (.t [.d (.str "heights"),.l x1])=some (.d (.bool false)))
  (e4:eLS (srcM false (fun ds=>ds.map O.d) (zan [false] zaG (zae (zab 0) aNil))) [none,some 1] (gtN 0) (gRet true) zbO [.d N,.d M,.d (.int c),.d W,.z]=.ok (.own (.l t4)) [.d N,.d M,.d (.int c),.d W,.z] q4) (f4:fz (.l t4)=some (.list l4))
  (e5:eLS (srcM false (fun ds=>ds.map O.d) (zan [false] zaG (zae (zab 1) aNil))) [none,some 2] (gtN 0) (gRet true) zbS [.d N,.d M,.d (.int c),.d W,.d (.list l4)]=.ok (.own (.l t5)) [.d N,.d M,.d (.int c),.d W,.d (.list l4)] q5) (f5:fz (.l t5)=some (.list l5))
  (fa5:fAdd (.d (.list l4)) (.d (.list l5))=some (.l ((l4++l5).map O.d)))
  (ht:zaG [.d W]=.ok (.l tw) []) (te:fEq false (.l tw) (.l ((l4++l5).map O.d))=some (.d (.bool true)))
  (k:za8 [.d W,.d (.int 0)]=.ok (.l fo) []) (k1:za8 [.d N,.d (.int 0)]=.ok (.l fo1) []) (k2:za8 [.d M,.d (.int c)]=.ok (.l fo2) [])
  (fk1:fz (.l fo1)=some (.list d1)) (fk2:fz (.l fo2)=some (.list d2)) (fa6:fAdd (.d (.list d1)) (.d (.list d2))=some (.l ((d1++d2).map O.d))) (fe6:fEq false (.l fo) (.l ((d1++d2).map O.d))=some (.d (.bool true))) :
  zaU [.d N,.d M]=.ok (.d (.bool true)) []:=by
 generalize (l4++l5).map O.d=L45 at *;generalize (d1++d2).map O.d=D12 at *;exact zbX rfl
  (L2.zaq (zaE (zbb rfl (zaN rfl rfl rfl) rfl (g0 _ _ _)) rfl rfl)
  (L2.zaq (zaE (zaK (zad (zax rfl (zbb rfl (zaN rfl rfl rfl) rfl (g1 _ _ _)) rfl rfl rfl rfl) (zad (zax (zbb rfl (zaN rfl rfl rfl) rfl (gn _ _ _)) (F29.zis (zaA (zad rfl (zad rfl rfl rfl) rfl) rfl on rfl rfl) fon) rfl rfl rfl fa) rfl rfl) rfl) rfl (Nat.le_of_ble_eq_true rfl) rfl) rfl rfl)
  (L2.zaq (if_f (za4 (zax (zaA (zad rfl rfl rfl) (zca (zih rfl fw) rfl) hw rfl rfl) (zaK (zad rfl (zad (zax (zbb (zaA (zad rfl rfl rfl) rfl h1 rfl rfl) (zaN rfl rfl rfl) rfl rfl) (zbb (zaA (zad rfl rfl rfl) rfl h2 rfl rfl) (zaN rfl rfl rfl) rfl rfl) rfl rfl rfl fh) rfl rfl) rfl) rfl (Nat.le_of_ble_eq_true rfl) rfl) rfl rfl rfl fe) rfl) rfl)
  (L2.zaq (zaE e4 rfl rfl)
  (L2.zaq (zaE (zax (zpD rfl (zkl rfl f4)) (F29.zis e5 f5) rfl rfl rfl fa5) rfl rfl)
  (zbm (ziS (zaN (zax (zaA (zad rfl rfl rfl) rfl ht rfl rfl) rfl rfl rfl rfl te) rfl rfl) (zaN (zax (zaA (zad rfl (zad rfl rfl rfl) rfl) rfl k rfl rfl) (zax (F29.zis (zaA (zad rfl (zad rfl rfl rfl) rfl) rfl k1 rfl rfl) fk1) (F29.zis (zaA (zad rfl (zad rfl rfl rfl) rfl) rfl k2 rfl rfl) fk2) rfl rfl rfl fa6) rfl rfl rfl fe6) rfl rfl)) rfl)))))) rfl
end
theorem zl7 {n:Int} {rs:List Road} (ok:zaL n rs) (T:Taut rs):zaT [.d (netD n rs)]=.ok (.t [.d (.str "heights"),zal (hts n rs)]) []:=by
 rcases zjn ok with ⟨_,e⟩ | ⟨nT,_⟩
 .rw[e,zhA];rfl
 .exact absurd T nT
theorem zg1 {s:Str} (hs:PyData.strOk s=true) (ws:List Int):SeqAt.shaped (ziq s ws)=true/\PyData.eqv (ziq s ws) (ziq s ws)=true:=by
 have l:=zhp ws;have c:(ziq s ws).canLay0=true:=by simp[ziq,zb2,PyData.canLay0,PyData.canLayAll0,l.1,hs]
 refine ⟨?_,zfo _ c⟩;simp only[SeqAt.shaped,c,Bool.true_and,decide_eq_true_eq];simp[ziq,zb2,PyData.depth,PyData.depthAll,l.2]
theorem zmw {o o':O} {t:Tab} (h:fz o=some (tabD t)) (h':fz o'=some (tabD t)):fEq false o o'=some (.d (.bool true)):=by
 have l:=zio t;have c:(tabD t).canLay0=true:=by simp only[tabD,PyData.canLay0,l.1]
 have s:SeqAt.shaped (tabD t)=true:=by
  simp only[SeqAt.shaped,c,Bool.true_and,decide_eq_true_eq];simp only[tabD,PyData.depth]
  have:=l.2
  omega
 exact zhz h h' s (zfo _ c) false
theorem zjP (t:Tab):fz (tabO t)=some (.list (t.map rowD)):=zlc t
theorem znh (c d:Int) (a b:List Road):netO (c+d) (side c a b)=.t [.d (.int (c+d)),.l ((a.map zar++(b.map (up c)).map zar).map O.d)]:=by
 unfold netO side;rw[zhC,List.map_append]
theorem ziw {c d:Int} {a b:List Road} (ha:zaL c a) (hb:zaL d b) (Ta:Taut a) (Tb:Taut b) (hc:c+d<=20) (hl:a.length+b.length<=60):zaU [.d (netD c a),.d (netD d b)]=.ok (.d (.bool true)) []:=by
 have c0:=ha.n0;have d0:=hb.n0;have ok:=zlv ha hb hc hl;have ia:=zf6 ha;have ib:=zf6 hb;have T:=zff ia ib Ta Tb;have sa:=zcp c.toNat a;have sb:=zcp d.toNat b;have ta:=zdD ha Ta;have tb:=zdD hb Tb;have tw:=zdD ok T;have ea:=zjP (zaP c.toNat a);have eb:=zjP (zaP d.toNat b);obtain ⟨q4,e4⟩:=zlk (A:=zbO) (T:=zaP c.toNat a) (ρ:=[.d (netD c a),.d (netD d b),.d (.int c),.d (netD (c+d) (side c a b)),.z]) (j:=1) (I:=srcM false (fun ds=>ds.map O.d) (zan [false] zaG (zae (zab 0) aNil))) (fun r=>r.map optD++List.replicate d.toNat PyData.none) rfl rfl rfl (by have:=sa.len;omega) (by
  unfold tabO at *;generalize netD c a=N at *;exact F30.zhq (zaA (zad rfl rfl rfl) rfl ta rfl rfl) ea) (fun r hr=>zsy d0 (by omega) (by have:=sa.row r hr;omega))
 have f4:=zj2 (T:=zaP c.toNat a) (fun r=>r.map optD++List.replicate d.toNat PyData.none);obtain ⟨q5,e5⟩:=zlk (A:=zbS) (T:=zaP d.toNat b) (ρ:=[.d (netD c a),.d (netD d b),.d (.int c),.d (netD (c+d) (side c a b)),.d (.list ((zaP c.toNat a).map fun r=>.list (r.map optD++List.replicate d.toNat PyData.none)))]) (j:=2) (I:=srcM false (fun ds=>ds.map O.d) (zan [false] zaG (zae (zab 1) aNil))) (fun r=>List.replicate c.toNat PyData.none++r.map optD) rfl rfl rfl (by have:=sb.len;omega) (by
  unfold tabO at *;generalize netD d b=M at *;exact F30.zhq (zaA (zad rfl rfl rfl) rfl tb rfl rfl) eb) (fun r hr=>zs0 c0 (by omega) (by have:=sb.row r hr;omega))
 have f5:=zj2 (T:=zaP d.toNat b) (fun r=>List.replicate c.toNat PyData.none++r.map optD);have fa5:fAdd (.d (.list ((zaP c.toNat a).map fun r=>.list (r.map optD++List.replicate d.toNat PyData.none)))) (.d (.list ((zaP d.toNat b).map fun r=>.list (List.replicate c.toNat PyData.none++r.map optD))))=_:=zgw (by
  have:=sa.len
  have:=sb.len
  simp;omega)
 have fD:=zfS (((zaP c.toNat a).map fun r=>PyData.list (r.map optD++List.replicate d.toNat .none))++(zaP d.toNat b).map fun r=>PyData.list (List.replicate c.toNat .none++r.map optD));rw[<-zok,<-zmz ha hb ok Ta Tb] at fD;have te:=zmw (zlc (zaP (c+d).toNat (side c a b))) fD;have on:=zpT (n:=d) (c:=c) (rs:=b) (by omega);have fon:=zfS ((b.map (up c)).map zar);have fa:fAdd (.d (.list (a.map zar))) (.d (.list ((b.map (up c)).map zar)))=_:=zgw (by simp;omega);have fw:=zhQ (c+d) (side c a b);rw[znh] at fw;have hw:=zl7 ok T;have h1:=zl7 ha Ta;have h2:=zl7 hb Tb;have fh:=zfe (a:=hts c a) (b:=hts d b) (by rw[zeE,zeE];omega);rw[<-zm0 ha hb ok Ta Tb] at fh;have fe:=zhz (zjs (s:="heights") (zdY (hts (c+d) (side c a b)))) (zjs (s:="heights") (zdY (hts (c+d) (side c a b)))) (zg1 zgC _).1 (zg1 zgC _).2 true;obtain ⟨fo,ds,k,fk,F⟩:=zhy (c:=0) ok T;obtain ⟨fo1,d1,k1,fk1,F1⟩:=zhy (c:=0) ha Ta;obtain ⟨fo2,d2,k2,fk2,F2⟩:=zhy (c:=c) hb Tb;obtain rfl:=zmh ia ib F F1 F2;have l1:=F1.1;have l2:=F2.1;have fa6:=zgw (a:=d1) (b:=d2) (by omega);have sh:=zli F.lay;have fe6:=zhz fk (zfS (d1++d2)) sh.1 sh.2 false;have g0:=fun w2 w3 w4=>ziF (n:=c) (rs:=a) (ρ:=[.d (netD c a),.d (netD d b),w2,w3,w4]) (j:=0) rfl
 have g1:=fun w2 w3 w4=>ziF (n:=d) (rs:=b) (ρ:=[.d (netD c a),.d (netD d b),w2,w3,w4]) (j:=1) rfl
 have gn:=fun w2 w3 w4=>zf0 (n:=c) (rs:=a) (ρ:=[.d (netD c a),.d (netD d b),w2,w3,w4]) (j:=0) rfl
 unfold tabO zal at *;exact zqn g0 g1 gn on fon fa fw hw h1 h2 fh fe e4 f4 e5 f5 fa5 tw te k k1 k2 fk1 fk2 fa6 fe6
end F43
end My
namespace L2
open PySem
section
variable {A B C:EF} {AA:AF} {ρ ρ1 ρ2 ρ3 ρ4:Rho} {r ra rb:Rv} {rs:List Rv} {q q1 q2 q3:Bool} {o x y z:O} {os outs:List O} {is:List Nat} {ms:List Bool} {F:FC} {S T U:SF} {V W:TF} {b c:Bool} {e:Str}
end
end L2
namespace My
open PySem L2
namespace F43
theorem zmJ {A B C:EF} {p q:Int->Int->Bool} {ρ ρ1 ρ2 ρ3:Rho} {a b c:Int} {q1 q2 q3:Bool} (h:eSc decI A ρ=.ok a ρ1 q1) (k:eSc decI B ρ1=.ok b ρ2 q2) (hp:p a b=true) (l:eSc decI C ρ2=.ok c ρ3 q3) (hq:q b c=true):zeo A B C p q ρ=.ok true ρ3 (q1&&(q2&&(q3&&true))):=by
 unfold zeo;refine zdh h (zdh k ?_);rw[if_pos hp];refine zdh l ?_;rw[hq];rfl
theorem zh2 {n p q:Int} {rs:List Road} {W:List Int} (ok:zaL n rs) (hp:0<=p/\p < n) (hq:0<=q/\q < n) (ld:zbC rs p q W=true) (hl:W.length<=1000):zbA [.d (netD n rs),.d (.int p),.d (.int q),.d (zb2 W)]=.ok (.d (.int (za0 rs W))) []:=by
 have c:=zcg ok hp hq;have l:=zne (n:=n) ld;have w:=zd9 (n:=n) hl (zgi ld);generalize netD n rs=N at *;generalize zb2 W=I at *;exact zbX rfl (L2.zaq (zbv (zbD (zad rfl (zad rfl (zad rfl rfl rfl) rfl) rfl) rfl c rfl)) (L2.zaq (if_f (zkK (zaN (zbD (zad rfl (zad rfl (zad rfl (zad rfl rfl rfl) rfl) rfl) rfl) rfl l rfl) rfl rfl)) rfl) (zbm (zbD (zad rfl (zad rfl rfl rfl) rfl) rfl w rfl) rfl))) rfl
theorem zix {n:Int} {rs:List Road} {S:List Int} (ok:zaL n rs) (T:Taut rs) (hS:∀s∈S,0<=s/\s < n) (h1:1<=S.length) (h7:S.length<=7):zde [.d (netD n rs),.d (zb2 S)]=.ok (tabO (zaP n.toNat rs)) []:=by
 have c:=zc6 ok;have t:=zdD ok T;obtain ⟨ρ',st,z,rfl⟩:=zcK (G:=gtN 2) (S:=zdH) (items:=(S.map PyData.int).map O.d) (ρ:=[.d (netD n rs),.d (zb2 S),.z]) (fun i ρ=>∃z,ρ=[.d (netD n rs),.d (zb2 S),z]) ⟨_,rfl⟩ (fun i x ρ hx hx__=>by
  obtain ⟨z,e⟩:=hx__;subst e;rw[List.getElem?_map,List.getElem?_map] at hx;obtain ⟨y,hy,rfl⟩:=Option.map_eq_some_iff.mp hx;obtain ⟨s,hs,rfl⟩:=Option.map_eq_some_iff.mp hy;obtain ⟨a,b⟩:=hS s (List.mem_of_getElem? hs);have cp:=zdW (rs:=rs) a b;generalize netD n rs=N at *;exact ⟨_,_,rfl,zbv (zbD (zad rfl (zad rfl rfl rfl) rfl) rfl cp rfl),_,rfl⟩)
 have lds_:lds ((S.map PyData.int).map O.d)=some (S.map PyData.int):=ze2 _;have sr:srcM false (fun ds=>ds.map O.d) (zab 1) [.d (netD n rs),.d (zb2 S),.z]=.ok (((S.map PyData.int).map O.d,none),true) [.d (netD n rs),.d (zb2 S),.z] true:=by
  unfold zb2;simp[els,cov,lds_]
 have ln:eB (zae (zab 1) aNil) (f1 fLen) [.d (netD n rs),.d (zb2 S),z]=.ok (.own (.d (.int (S.length:Int)))) [.d (netD n rs),.d (zb2 S),z] true:=by
  unfold zb2;simp[f1,fLen,els,vns,vn,vw,sub,pok]
 have ch:=zmJ (p:=fun i j=>decide (i<=j)) (q:=fun i j=>decide (i<=j)) (A:=eC (.int 1)) (C:=eC (.int 7)) (ρ:=[.d (netD n rs),.d (zb2 S),z]) (zaN rfl rfl rfl) (zaN ln rfl rfl) (decide_eq_true (by omega)) (zaN rfl rfl rfl) (decide_eq_true (by omega));unfold tabO at *;generalize netD n rs=N at *;generalize zb2 S=I at *;exact zbX rfl (L2.zaq (zbv (zbD (zad rfl rfl rfl) rfl c rfl)) (L2.zaq (F30.zjO sr st) (L2.zaq (if_f (zkK ch) rfl) (zbm (zaA (zad rfl rfl rfl) rfl t rfl rfl) rfl)))) rfl
theorem zku {n p s e q A B L:Int} {rs:List Road} (ok:zaL n rs) (T:Taut rs) (hp:0<=p/\p < n) (hs:0<=s/\s < n) (he:0<=e/\e < n) (hq:0<=q/\q < n) (hA:Dist rs p s A) (hL:Dist rs s e L) (hB:Dist rs e q B) :
  zco [.d (netD n rs),.l [.d (.int p),.d (.int s),.d (.int e),.d (.int q)]]=.ok (.d (.int (A+L+B))) []:=by
 have n1:=ok.n1;have sh:=zcp n.toNat rs;have c1:=(zbu ok T hp hs).mpr hA;have c2:=(zbu ok T hs he).mpr hL;have c3:=(zbu ok T he hq).mpr hB;have tf:=zix (S:=[p,s,e,q]) ok T (fun x hx=>by
  simp only[List.mem_cons,List.mem_nil_iff,or_false] at hx;rcases hx with rfl | rfl | rfl | rfl<;>assumption) (by simp) (by simp)
 have ft:=zlc (zaP n.toNat rs);have r1:=zjb (ρ:=[.d (.int p),.d (.int s),.d (tabD (zaP n.toNat rs))]) (k:=2) (a:=0) (b:=1) (i:=p) (j:=s) sh rfl rfl rfl (by omega) (by omega);have r2:=zjb (ρ:=[.d (.int s),.d (.int e),.d (tabD (zaP n.toNat rs))]) (k:=2) (a:=0) (b:=1) (i:=s) (j:=e) sh rfl rfl rfl (by omega) (by omega);have r3:=zjb (ρ:=[.d (.int e),.d (.int q),.d (tabD (zaP n.toNat rs))]) (k:=2) (a:=0) (b:=1) (i:=e) (j:=q) sh rfl rfl rfl (by omega) (by omega);rw[c1] at r1;rw[c2] at r2;rw[c3] at r3;have su:zb1 [.l [.d (.int A),.d (.int L),.d (.int B)]]=.ok (.d (.int (A+L+B))) []:=znO (some A) (some B) L;have lt:zb8 [.d (tabD (zaP n.toNat rs)),.d (zb2 [p,s,e,q])]=.ok (.d (.int (A+L+B))) []:=by
  generalize tabD (zaP n.toNat rs)=Td at *;have iz:itZ (zae (zab 1) (zae (eFz (eSl (zab 1) (zh9 (eC (.int 1))) oNo)) aNil)) [.d Td,.d (zb2 [p,s,e,q])]=.ok [.d (.tuple [.int p,.int s]),.d (.tuple [.int s,.int e]),.d (.tuple [.int e,.int q])] [.d Td,.d (zb2 [p,s,e,q])] true:=rfl;have lc:=zoc (js:=[none,none,some 0]) (G:=gtT (zau (gtN 0) (zau (gtN 1) zbZ))) (V:=gRet true) (A:=zcH) iz (Nat.le_of_ble_eq_true rfl) (F24.zfr rfl rfl r1 rfl (F24.zfr rfl rfl r2 rfl (F24.zfr rfl rfl r3 rfl rfl)));exact zbX rfl (zbm (zbD (zad lc rfl rfl) rfl su rfl) rfl) rfl
 unfold tabO at *;generalize netD n rs=N at *;generalize tabD (zaP n.toNat rs)=Td at *;exact zbX rfl (zbm (zbD (zad (F29.zis (zaA (zad rfl (zad rfl rfl rfl) rfl) (zca rfl (zca (zkl rfl rfl) rfl)) tf rfl rfl) ft) (zad rfl rfl rfl) rfl) rfl lt rfl) rfl) rfl
def TL:SF:=(sSeq (sIf (gOr (tst (e2 (zab 11) (eC .none) (fIs false))) (tst (e2 (zab 12) (eC .none) (fIs false)))) (sRet mov (eAnd (e2 (zab 14) (eC .none) (fIs false)) (eAnd (e2 (eIx (zab 15) (eC (.int 0))) (eC (.str "none")) (fEq false)) (e2 (zan [false,false,false] za6 (zae (zab 9) (zae (zab 4) (zae (e2 (zab 3) (zab 7) fAdd) aNil)))) (zaQ movs .l aNil) (fEq false))))) sNil)
  (sSeq (sAsg coe (e2 (e2 (zab 11) (eIx (zab 8) (eC (.int 2))) fAdd) (zab 12) fAdd) (gtN 16))
  (sSeq (sIf (gOr (tst (e2 (zab 14) (eC .none) (fIs false))) (gOr (tst (e2 (eIx (zab 14) (eC (.int 0))) (zab 16) (fEq true))) (tst (e2 (zan [false,false,false,false] zbA (zae (zab 9) (zae (zab 4) (zae (e2 (zab 3) (zab 7) fAdd) (zae (eIx (zab 15) (eC (.int 1))) aNil))))) (zab 16) (fEq true))))) (sRet mov (eC (.bool false))) sNil)
  (sSeq (sIf (tst (e2 (zab 10) (zan [false,false,false] za6 (zae (zab 9) (zae (zab 4) (zae (e2 (zab 3) (zab 7) fAdd) aNil)))) (fIn true))) (sRet mov (eC (.bool false))) sNil)
  (sRet coe (e2 (zan [false,false] zco (zae (zab 9) (zae (zaQ coes .l (zae (zab 4) (zae (zab 5) (zae (e2 (zab 3) (zab 6) fAdd) (zae (e2 (zab 3) (zab 7) fAdd) aNil))))) aNil))) (zab 16) (fEq false)))))))
section
variable {N M R W x y:PyData} {c d a0 b0 e0 f0 L k:Int} {P0 P1 P2 P3 os xs ys ws t1 r1 t2 r2 po:List O} {la:List PyData} {fo t0 l0:O} {q1 q2:Bool} {s:Str} {Rs:Rt}
theorem zi5
  (g1:∀ρ:Rho,ρ[1]? = some (.d N)->gIx ρ (.at 1 []) 0=some (.own (.d (.int c))))
  (g2:∀ρ:Rho,ρ[2]? = some (.d M)->gIx ρ (.at 2 []) 0=some (.own (.d (.int d))))
  (gn:∀ρ:Rho,ρ[1]? = some (.d N)->gIx ρ (.at 1 []) 1=some (.own (.d (.list la))))
  (d1:eLC (itR1 (eC (.int 2))) [none,some 0,some 3] (gtN 0) (gRet true) zbn [.l P0,.d N,.d M,.d (.int c),.z,.z,.z,.z,.z,.z,.z,.z,.z,.z,.z,.z,.z]=.ok (.own (.l [.d (.int a0),.d (.int b0)])) [.l P1,.d N,.d M,.d (.int c),.z,.z,.z,.z,.z,.z,.z,.z,.z,.z,.z,.z,.z] q1)
  (d2:eLC (itR1 (eC (.int 2))) [none,some 0,some 2] (gtN 0) (gRet true) zbl [.l P1,.d N,.d M,.d (.int c),.d (.int a0),.d (.int b0),.z,.z,.z,.z,.z,.z,.z,.z,.z,.z,.z]=.ok (.own (.l [.d (.int e0),.d (.int f0)])) [.l P2,.d N,.d M,.d (.int c),.d (.int a0),.d (.int b0),.z,.z,.z,.z,.z,.z,.z,.z,.z,.z,.z] q2)
  (dn:zbd [.l P2,.d (.int 1000000000)]=.ok (.d (.int L)) [.l P3]) (hr:mkT [.d (.int b0),.d (.int (c+e0)),.d (.int L)]=.d R)
  (on:zbV [.d M,.d (.int c)]=.ok (.l os) []) (fa:fAdd (.d (.list la)) (.l os)=some (.l xs)) (fb:fAdd (.l xs) (.l [.d R])=some (.l ys))
  (hk:(ys.length:Int) - 1=k)
  (h1:zaG [.d N]=.ok (.l t1) []) (i1:∀ρ:Rho,gIx ρ (.own (.l t1)) a0=some (.own (.l r1))) (j1:∀ρ:Rho,gIx ρ (.own (.l r1)) b0=some (.own (.d x)))
  (h2:zaG [.d M]=.ok (.l t2) []) (i2:∀ρ:Rho,gIx ρ (.own (.l t2)) e0=some (.own (.l r2))) (j2:∀ρ:Rho,gIx ρ (.own (.l r2)) f0=some (.own (.d y)))
  (fw:fz (.t [.d (.int (c+d)),.l ys])=some W)
  (hf:zbe [.d W,.d (.int k)]=.ok (.t [.d (.str "free"),t0]) []) (hl:za5 [.d W,.d (.int (c+f0)),.d (.int a0)]=.ok (.t [.d (.str "none"),l0]) [])
  (ff:fEq true (.d (.str "free")) (.d (.str "free"))=some (.d (.bool false))) (fn:fEq true (.d (.str "none")) (.d (.str "none"))=some (.d (.bool false)))
  (hb:zcJ [.d W,.d (.int a0),.d (.int (c+f0)),.d (.int k)]=.ok fo []) (hs:scl fo=false\/scl fo=true)
  (hp:za5 [.d W,.d (.int a0),.d (.int (c+f0))]=.ok (.t (.d (.str s)::po)) [])
  (kk:TL [.l P3,.d N,.d M,.d (.int c),.d (.int a0),.d (.int b0),.d (.int e0),.d (.int f0),.d R,.d W,.d (.int k),.d x,.d y,.t [.d (.str "free"),t0],fo,.t (.d (.str s)::po),.z]=Rs) :
  zcE [.l P0,.d N,.d M,.z,.z,.z,.z,.z,.z,.z,.z,.z,.z,.z,.z,.z,.z]=Rs:=by
 have hbE:∀w15 w16,(sAsg coe (zan [false,false,false,false] zcJ (zae (zab 9) (zae (zab 4) (zae (e2 (zab 3) (zab 7) fAdd) (zae (zab 10) aNil))))) (gtN 14)) [.l P3,.d N,.d M,.d (.int c),.d (.int a0),.d (.int b0),.d (.int e0),.d (.int f0),.d R,.d W,.d (.int k),.d x,.d y,.t [.d (.str "free"),t0],.z,w15,w16]=.nx [.l P3,.d N,.d M,.d (.int c),.d (.int a0),.d (.int b0),.d (.int e0),.d (.int f0),.d R,.d W,.d (.int k),.d x,.d y,.t [.d (.str "free"),t0],fo,w15,w16]:=fun w15 w16=>by
  rcases hs with hs | hs
  .exact zaE (zaA (zad rfl (zad rfl (zad (zax rfl rfl rfl rfl rfl rfl) (zad rfl rfl rfl) rfl) rfl) rfl) rfl hb (by simp[hs]) rfl) rfl rfl
  .exact zaE (zbD (zad rfl (zad rfl (zad (zax rfl rfl rfl rfl rfl rfl) (zad rfl rfl rfl) rfl) rfl) rfl) rfl hb (by simp[hs])) rfl rfl
 have s0:(sAsg coe (eIx (zab 1) (eC (.int 0))) (gtN 3)) [.l P0,.d N,.d M,.z,.z,.z,.z,.z,.z,.z,.z,.z,.z,.z,.z,.z,.z]=.nx [.l P0,.d N,.d M,.d (.int c),.z,.z,.z,.z,.z,.z,.z,.z,.z,.z,.z,.z,.z]:=zaE (zbb rfl (zaN rfl rfl rfl) rfl (g1 _ rfl)) rfl rfl;have s1:(sAsg coe (eLC (itR1 (eC (.int 2))) [none,some 0,some 3] (gtN 0) (gRet true) zbn) (gtL (zau (gtN 4) (zau (gtN 5) zbZ)))) [.l P0,.d N,.d M,.d (.int c),.z,.z,.z,.z,.z,.z,.z,.z,.z,.z,.z,.z,.z]=.nx [.l P1,.d N,.d M,.d (.int c),.d (.int a0),.d (.int b0),.z,.z,.z,.z,.z,.z,.z,.z,.z,.z,.z]:=zaE d1 rfl rfl;have s2:(sAsg coe (eLC (itR1 (eC (.int 2))) [none,some 0,some 2] (gtN 0) (gRet true) zbl) (gtL (zau (gtN 6) (zau (gtN 7) zbZ)))) [.l P1,.d N,.d M,.d (.int c),.d (.int a0),.d (.int b0),.z,.z,.z,.z,.z,.z,.z,.z,.z,.z,.z]=.nx [.l P2,.d N,.d M,.d (.int c),.d (.int a0),.d (.int b0),.d (.int e0),.d (.int f0),.z,.z,.z,.z,.z,.z,.z,.z,.z]:=zaE d2 rfl rfl;have s3:(sAsg coe (zaQ coes mkT (zae (zab 5) (zae (e2 (zab 3) (zab 6) fAdd) (zae (zan [true,false] zbd (zae (zab 0) (zae (e2 (eC (.int 10)) (eC (.int 9)) fPow) aNil))) aNil)))) (gtN 8)) [.l P2,.d N,.d M,.d (.int c),.d (.int a0),.d (.int b0),.d (.int e0),.d (.int f0),.z,.z,.z,.z,.z,.z,.z,.z,.z]=.nx [.l P3,.d N,.d M,.d (.int c),.d (.int a0),.d (.int b0),.d (.int e0),.d (.int f0),.d R,.z,.z,.z,.z,.z,.z,.z,.z]:=zaE (zaK (zad rfl (zad (zax rfl rfl rfl rfl rfl rfl) (zad (zaA (zad rfl (zad rfl rfl rfl) rfl) rfl dn rfl rfl) rfl rfl) rfl) rfl) rfl (Nat.le_of_ble_eq_true rfl) hr) rfl rfl;have s4:(sAsg coe (zaQ coes mkT (zae (e2 (zab 3) (eIx (zab 2) (eC (.int 0))) fAdd) (zae (e2 (e2 (eIx (zab 1) (eC (.int 1))) (zan [false,false] zbV (zae (zab 2) (zae (zab 3) aNil))) fAdd) (zaQ coes .l (zae (zab 8) aNil)) fAdd) aNil))) (gtN 9)) [.l P3,.d N,.d M,.d (.int c),.d (.int a0),.d (.int b0),.d (.int e0),.d (.int f0),.d R,.z,.z,.z,.z,.z,.z,.z,.z]=.nx [.l P3,.d N,.d M,.d (.int c),.d (.int a0),.d (.int b0),.d (.int e0),.d (.int f0),.d R,.t [.d (.int (c+d)),.l ys],.z,.z,.z,.z,.z,.z,.z]:=zaE (zaK (zad (zax rfl (zbb rfl (zaN rfl rfl rfl) rfl (g2 _ rfl)) rfl rfl rfl rfl) (zad (zax (zax (zbb rfl (zaN rfl rfl rfl) rfl (gn _ rfl)) (zaA (zad rfl (zad rfl rfl rfl) rfl) rfl on rfl rfl) rfl rfl rfl fa) (zaK (zad rfl rfl rfl) rfl (Nat.le_of_ble_eq_true rfl) rfl) rfl rfl rfl fb) rfl rfl) rfl) rfl (Nat.le_of_ble_eq_true rfl) rfl) rfl rfl;have s5:(sAsg coe (e2 (eB (zae (eIx (zab 9) (eC (.int 1))) aNil) (f1 fLen)) (eC (.int 1)) fSub) (gtN 10)) [.l P3,.d N,.d M,.d (.int c),.d (.int a0),.d (.int b0),.d (.int e0),.d (.int f0),.d R,.t [.d (.int (c+d)),.l ys],.z,.z,.z,.z,.z,.z,.z]=.nx [.l P3,.d N,.d M,.d (.int c),.d (.int a0),.d (.int b0),.d (.int e0),.d (.int f0),.d R,.t [.d (.int (c+d)),.l ys],.d (.int k),.z,.z,.z,.z,.z,.z]:=zaE (zax (zkH (zad (zbb rfl (zaN rfl rfl rfl) rfl rfl) rfl rfl) rfl rfl) rfl rfl rfl rfl (show fSub (.d (.int (ys.length:Int))) (.d (.int 1))=some (.d (.int k)) from hk ▸ rfl)) rfl rfl;have s6:(sAsg coe (eIx (eIx (zan [false] zaG (zae (zab 1) aNil)) (zab 4)) (zab 5)) (gtN 11)) [.l P3,.d N,.d M,.d (.int c),.d (.int a0),.d (.int b0),.d (.int e0),.d (.int f0),.d R,.t [.d (.int (c+d)),.l ys],.d (.int k),.z,.z,.z,.z,.z,.z]=.nx [.l P3,.d N,.d M,.d (.int c),.d (.int a0),.d (.int b0),.d (.int e0),.d (.int f0),.d R,.t [.d (.int (c+d)),.l ys],.d (.int k),.d x,.z,.z,.z,.z,.z]:=zaE (zbb (zbb (zaA (zad rfl rfl rfl) rfl h1 rfl rfl) (zaN rfl rfl rfl) rfl (i1 _)) (zaN rfl rfl rfl) rfl (j1 _)) rfl rfl;have s7:(sAsg coe (eIx (eIx (zan [false] zaG (zae (zab 2) aNil)) (zab 6)) (zab 7)) (gtN 12)) [.l P3,.d N,.d M,.d (.int c),.d (.int a0),.d (.int b0),.d (.int e0),.d (.int f0),.d R,.t [.d (.int (c+d)),.l ys],.d (.int k),.d x,.z,.z,.z,.z,.z]=.nx [.l P3,.d N,.d M,.d (.int c),.d (.int a0),.d (.int b0),.d (.int e0),.d (.int f0),.d R,.t [.d (.int (c+d)),.l ys],.d (.int k),.d x,.d y,.z,.z,.z,.z]:=zaE (zbb (zbb (zaA (zad rfl rfl rfl) rfl h2 rfl rfl) (zaN rfl rfl rfl) rfl (i2 _)) (zaN rfl rfl rfl) rfl (j2 _)) rfl rfl;have s8:(sAsg coe (zan [false,false] zbe (zae (zab 9) (zae (zab 10) aNil))) (gtN 13)) [.l P3,.d N,.d M,.d (.int c),.d (.int a0),.d (.int b0),.d (.int e0),.d (.int f0),.d R,.t [.d (.int (c+d)),.l ys],.d (.int k),.d x,.d y,.z,.z,.z,.z]=.nx [.l P3,.d N,.d M,.d (.int c),.d (.int a0),.d (.int b0),.d (.int e0),.d (.int f0),.d R,.d W,.d (.int k),.d x,.d y,.t [.d (.str "free"),t0],.z,.z,.z]:=zaE (zaA (zad rfl (zad rfl rfl rfl) rfl) (zca (zih rfl fw) (zca rfl rfl)) hf rfl rfl) rfl rfl;have s9:(sIf (gOr (tst (e2 (eIx (zab 13) (eC (.int 0))) (eC (.str "free")) (fEq true))) (tst (e2 (eIx (zan [false,false,false] za5 (zae (zab 9) (zae (e2 (zab 3) (zab 7) fAdd) (zae (zab 4) aNil)))) (eC (.int 0))) (eC (.str "none")) (fEq true)))) (sRet mov (eC (.bool false))) sNil) [.l P3,.d N,.d M,.d (.int c),.d (.int a0),.d (.int b0),.d (.int e0),.d (.int f0),.d R,.d W,.d (.int k),.d x,.d y,.t [.d (.str "free"),t0],.z,.z,.z]=.nx [.l P3,.d N,.d M,.d (.int c),.d (.int a0),.d (.int b0),.d (.int e0),.d (.int f0),.d R,.d W,.d (.int k),.d x,.d y,.t [.d (.str "free"),t0],.z,.z,.z]:=if_f (or_f (za4 (zax (zbb rfl (zaN rfl rfl rfl) rfl rfl) rfl rfl rfl rfl ff) rfl) (za4 (zax (zbb (zaA (zad rfl (zad (zax rfl rfl rfl rfl rfl rfl) (zad rfl rfl rfl) rfl) rfl) rfl hl rfl rfl) (zaN rfl rfl rfl) rfl rfl) rfl rfl rfl rfl fn) rfl)) rfl;have s11:(sAsg coe (zan [false,false,false] za5 (zae (zab 9) (zae (zab 4) (zae (e2 (zab 3) (zab 7) fAdd) aNil)))) (gtN 15)) [.l P3,.d N,.d M,.d (.int c),.d (.int a0),.d (.int b0),.d (.int e0),.d (.int f0),.d R,.d W,.d (.int k),.d x,.d y,.t [.d (.str "free"),t0],fo,.z,.z]=.nx [.l P3,.d N,.d M,.d (.int c),.d (.int a0),.d (.int b0),.d (.int e0),.d (.int f0),.d R,.d W,.d (.int k),.d x,.d y,.t [.d (.str "free"),t0],fo,.t (.d (.str s)::po),.z]:=zaE (zaA (zad rfl (zad rfl (zad (zax rfl rfl rfl rfl rfl rfl) rfl rfl) rfl) rfl) rfl hp rfl rfl) rfl rfl;unfold TL at kk;exact L2.zaq s0 (L2.zaq s1 (L2.zaq s2 (L2.zaq s3 (L2.zaq s4 (L2.zaq s5 (L2.zaq s6 (L2.zaq s7 (L2.zaq s8 (L2.zaq s9 (L2.zaq (hbE _ _) (L2.zaq s11 (kk))))))))))))
end
section
variable {N M W x y Wd:PyData} {c d a0 b0 e0 f0 L k A B:Int} {P3 ws:List O} {w15 w14 t0:O} {q:Bool} {ks:List Int}
theorem zlA (t:(gOr (tst (e2 (zab 11) (eC .none) (fIs false))) (tst (e2 (zab 12) (eC .none) (fIs false)))) [.l P3,.d N,.d M,.d (.int c),.d (.int a0),.d (.int b0),.d (.int e0),.d (.int f0),.d (zar (b0,c+e0,L)),.d W,.d (.int k),.d x,.d y,.t [.d (.str "free"),t0],.d .none,.t [.d (.str "none"),w15],.z]=.ok true [.l P3,.d N,.d M,.d (.int c),.d (.int a0),.d (.int b0),.d (.int e0),.d (.int f0),.d (zar (b0,c+e0,L)),.d W,.d (.int k),.d x,.d y,.t [.d (.str "free"),t0],.d .none,.t [.d (.str "none"),w15],.z] q)
  (nd:za6 [.d W,.d (.int a0),.d (.int (c+f0))]=.ok (.l []) []) (nn:fEq false (.d (.str "none")) (.d (.str "none"))=some (.d (.bool true))) (ee:fEq false (.l []) (.l [])=some (.d (.bool true))) :
  TL [.l P3,.d N,.d M,.d (.int c),.d (.int a0),.d (.int b0),.d (.int e0),.d (.int f0),.d (zar (b0,c+e0,L)),.d W,.d (.int k),.d x,.d y,.t [.d (.str "free"),t0],.d .none,.t [.d (.str "none"),w15],.z]=.rt (.d (.bool true)) [.l P3,.d N,.d M,.d (.int c),.d (.int a0),.d (.int b0),.d (.int e0),.d (.int f0),.d (zar (b0,c+e0,L)),.d W,.d (.int k),.d x,.d y,.t [.d (.str "free"),t0],.d .none,.t [.d (.str "none"),w15],.z]:=by
 unfold TL;exact L2.zfY (if_t t (zbm (ziS (zaN (zax rfl rfl rfl rfl rfl rfl) rfl rfl) (zaN (ziS (zaN (zax (zbb rfl (zaN rfl rfl rfl) rfl rfl) rfl rfl rfl rfl nn) rfl rfl) (zaN (zax (zaA (zad rfl (zad rfl (zad (zax rfl rfl rfl rfl rfl rfl) rfl rfl) rfl) rfl) rfl nd rfl rfl) (zaK rfl rfl (Nat.le_of_ble_eq_true rfl) rfl) rfl rfl rfl ee) rfl rfl)) rfl rfl)) rfl))
theorem zlq (fw:fz (.l ws)=some Wd) (f15:fz (.t [.d (.str "way"),.l ws,w15])=some x)
  (fd:fEq true (.d (.int (A+L+B))) (.d (.int (A+L+B)))=some (.d (.bool false))) (fe:fEq false (.d (.int (A+L+B))) (.d (.int (A+L+B)))=some (.d (.bool true)))
  (lo:zbA [.d W,.d (.int a0),.d (.int (c+f0)),.d Wd]=.ok (.d (.int (A+L+B))) [])
  (nd:za6 [.d W,.d (.int a0),.d (.int (c+f0))]=.ok (zal ks) []) (fi:fIn true (.d (.int k)) (zal ks)=some (.d (.bool false)))
  (th:zco [.d W,.l [.d (.int a0),.d (.int b0),.d (.int (c+e0)),.d (.int (c+f0))]]=.ok (.d (.int (A+L+B))) []) :
  TL [.l P3,.d N,.d M,.d (.int c),.d (.int a0),.d (.int b0),.d (.int e0),.d (.int f0),.d (zar (b0,c+e0,L)),.d W,.d (.int k),.d (.int A),.d (.int B),.t [.d (.str "free"),t0],.t [.d (.int (A+L+B)),w14],.t [.d (.str "way"),.l ws,w15],.z]=.rt (.d (.bool true)) [.l P3,.d N,.d M,.d (.int c),.d (.int a0),.d (.int b0),.d (.int e0),.d (.int f0),.d (zar (b0,c+e0,L)),.d W,.d (.int k),.d (.int A),.d (.int B),.t [.d (.str "free"),t0],.t [.d (.int (A+L+B)),w14],.t [.d (.str "way"),.l ws,w15],.d (.int (A+L+B))]:=by
 unfold zal at *;generalize ks.map (fun h=>O.d (PyData.int h))=K at *;have s12:(sIf (gOr (tst (e2 (zab 11) (eC .none) (fIs false))) (tst (e2 (zab 12) (eC .none) (fIs false)))) (sRet mov (eAnd (e2 (zab 14) (eC .none) (fIs false)) (eAnd (e2 (eIx (zab 15) (eC (.int 0))) (eC (.str "none")) (fEq false)) (e2 (zan [false,false,false] za6 (zae (zab 9) (zae (zab 4) (zae (e2 (zab 3) (zab 7) fAdd) aNil)))) (zaQ movs .l aNil) (fEq false))))) sNil) [.l P3,.d N,.d M,.d (.int c),.d (.int a0),.d (.int b0),.d (.int e0),.d (.int f0),.d (zar (b0,c+e0,L)),.d W,.d (.int k),.d (.int A),.d (.int B),.t [.d (.str "free"),t0],.t [.d (.int (A+L+B)),w14],.t [.d (.str "way"),.l ws,w15],.z]=.nx [.l P3,.d N,.d M,.d (.int c),.d (.int a0),.d (.int b0),.d (.int e0),.d (.int f0),.d (zar (b0,c+e0,L)),.d W,.d (.int k),.d (.int A),.d (.int B),.t [.d (.str "free"),t0],.t [.d (.int (A+L+B)),w14],.t [.d (.str "way"),.l ws,w15],.z]:=if_f (or_f (za4 (zax rfl rfl rfl rfl rfl rfl) rfl) (za4 (zax rfl rfl rfl rfl rfl rfl) rfl)) rfl;have s13:(sAsg coe (e2 (e2 (zab 11) (eIx (zab 8) (eC (.int 2))) fAdd) (zab 12) fAdd) (gtN 16)) [.l P3,.d N,.d M,.d (.int c),.d (.int a0),.d (.int b0),.d (.int e0),.d (.int f0),.d (zar (b0,c+e0,L)),.d W,.d (.int k),.d (.int A),.d (.int B),.t [.d (.str "free"),t0],.t [.d (.int (A+L+B)),w14],.t [.d (.str "way"),.l ws,w15],.z]=.nx [.l P3,.d N,.d M,.d (.int c),.d (.int a0),.d (.int b0),.d (.int e0),.d (.int f0),.d (zar (b0,c+e0,L)),.d W,.d (.int k),.d (.int A),.d (.int B),.t [.d (.str "free"),t0],.t [.d (.int (A+L+B)),w14],.t [.d (.str "way"),.l ws,w15],.d (.int (A+L+B))]:=zaE (zax (zax rfl (zbb rfl (zaN rfl rfl rfl) rfl rfl) rfl rfl rfl rfl) rfl rfl rfl rfl rfl) rfl rfl;have s14:(sIf (gOr (tst (e2 (zab 14) (eC .none) (fIs false))) (gOr (tst (e2 (eIx (zab 14) (eC (.int 0))) (zab 16) (fEq true))) (tst (e2 (zan [false,false,false,false] zbA (zae (zab 9) (zae (zab 4) (zae (e2 (zab 3) (zab 7) fAdd) (zae (eIx (zab 15) (eC (.int 1))) aNil))))) (zab 16) (fEq true))))) (sRet mov (eC (.bool false))) sNil) [.l P3,.d N,.d M,.d (.int c),.d (.int a0),.d (.int b0),.d (.int e0),.d (.int f0),.d (zar (b0,c+e0,L)),.d W,.d (.int k),.d (.int A),.d (.int B),.t [.d (.str "free"),t0],.t [.d (.int (A+L+B)),w14],.t [.d (.str "way"),.l ws,w15],.d (.int (A+L+B))]=.nx [.l P3,.d N,.d M,.d (.int c),.d (.int a0),.d (.int b0),.d (.int e0),.d (.int f0),.d (zar (b0,c+e0,L)),.d W,.d (.int k),.d (.int A),.d (.int B),.t [.d (.str "free"),t0],.t [.d (.int (A+L+B)),w14],.t [.d (.str "way"),.l ws,w15],.d (.int (A+L+B))]:=if_f (or_f (za4 (zax rfl rfl rfl rfl rfl rfl) rfl) (or_f (za4 (zax (zbb rfl (zaN rfl rfl rfl) rfl rfl) rfl rfl rfl rfl fd) rfl) (za4 (zax (zbD (zad rfl (zad rfl (zad (zax rfl rfl rfl rfl rfl rfl) (zad (zbb rfl (zaN rfl rfl rfl) rfl rfl) rfl rfl) rfl) rfl) rfl) (zca rfl (zca rfl (zca rfl (zca (zrc rfl rfl f15 fw) rfl)))) lo rfl) rfl rfl rfl rfl fd) rfl))) rfl;have s15:(sIf (tst (e2 (zab 10) (zan [false,false,false] za6 (zae (zab 9) (zae (zab 4) (zae (e2 (zab 3) (zab 7) fAdd) aNil)))) (fIn true))) (sRet mov (eC (.bool false))) sNil) [.l P3,.d N,.d M,.d (.int c),.d (.int a0),.d (.int b0),.d (.int e0),.d (.int f0),.d (zar (b0,c+e0,L)),.d W,.d (.int k),.d (.int A),.d (.int B),.t [.d (.str "free"),t0],.t [.d (.int (A+L+B)),w14],.t [.d (.str "way"),.l ws,w15],.d (.int (A+L+B))]=.nx [.l P3,.d N,.d M,.d (.int c),.d (.int a0),.d (.int b0),.d (.int e0),.d (.int f0),.d (zar (b0,c+e0,L)),.d W,.d (.int k),.d (.int A),.d (.int B),.t [.d (.str "free"),t0],.t [.d (.int (A+L+B)),w14],.t [.d (.str "way"),.l ws,w15],.d (.int (A+L+B))]:=if_f (za4 (zax rfl (zaA (zad rfl (zad rfl (zad (zax rfl rfl rfl rfl rfl rfl) rfl rfl) rfl) rfl) rfl nd rfl rfl) rfl rfl rfl fi) rfl) rfl;unfold TL;exact L2.zaq s12 (L2.zaq s13 (L2.zaq s14 (L2.zaq s15 (zbm (zax (zbD (zad rfl (zad (zaK (zad rfl (zad rfl (zad (zax rfl rfl rfl rfl rfl rfl) (zad (zax rfl rfl rfl rfl rfl rfl) rfl rfl) rfl) rfl) rfl) rfl (Nat.le_of_ble_eq_true rfl) rfl) rfl rfl) rfl) rfl th rfl) rfl rfl rfl rfl fe) rfl))))
end
theorem zhT {j:Nat} {A:EF} {o p:O} {rest:List O} {m n:Int} (hA:∀(k:Int) (p:O) (m:Int),PuOk p m->m<=1125899906842000->∃r p',A [.d (.int k),p,o]=.ok (.own (.d (.int r))) [.d (.int k),p',o] false/\0<=r/\r < n/\PuOk p' (m+4))
  (hp:∀p,zex [none,some 0,some j] (p::rest)=[.z,p,o]) (hb:∀p k p',zdb [none,some 0,some j] [.d (.int k),p',o] (clrR [none,some 0,some j] (p::rest))=p'::rest) (h:PuOk p m) (hm:m<=1125899906841990) :
  ∃r1 r2 p' q,eLC (itR1 (eC (.int 2))) [none,some 0,some j] (gtN 0) (gRet true) A (p::rest)=.ok (.own (.l [.d (.int r1),.d (.int r2)])) (p'::rest) q/\(0<=r1/\r1 < n)/\(0<=r2/\r2 < n)/\PuOk p' (m+8):=by
 obtain ⟨r1,p1,a1,b1,c1,h1⟩:=hA 0 p m h (by omega);obtain ⟨r2,p2,a2,b2,c2,h2⟩:=hA 1 p1 _ h1 (by omega);have s2:lcF [none,some 0,some j] (gtN 0) (gRet true) A [.d (.int 1)] (p1::rest) [.d (.int r1)] false=.ok [.d (.int r1),.d (.int r2)] (p2::rest) false:=F24.zfr (ρ1:=[.d (.int 1),p1,o]) (by rw[hp];rfl) rfl a2 rfl (by rw[hb];rfl);have s1:lcF [none,some 0,some j] (gtN 0) (gRet true) A [.d (.int 0),.d (.int 1)] (p::rest) [] true=.ok [.d (.int r1),.d (.int r2)] (p2::rest) false:=F24.zfr (ρ1:=[.d (.int 0),p,o]) (by rw[hp];rfl) rfl a1 rfl (by rw[hb];exact s2);exact ⟨r1,r2,p2,_,zoc (q1:=true) (items:=[.d (.int 0),.d (.int 1)]) rfl (Nat.le_of_ble_eq_true rfl) s1,⟨b1,c1⟩,⟨b2,c2⟩,h2.mono (by omega)⟩
theorem zrL {n:Int} (h0:1<=n) (h1:n<=100) (k:Int) (p:O) (m:Int) (h:PuOk p m) (hm:m<=1125899906842000):∃r p',zbn [.d (.int k),p,.d (.int n)]=.ok (.own (.d (.int r))) [.d (.int k),p',.d (.int n)] false/\0<=r/\r < n/\PuOk p' (m+4):=by
 obtain ⟨r,p',e,a,b,hp'⟩:=zcS h (by omega) h0 (by omega);obtain ⟨_,_,_,rfl⟩:=h.sh;obtain ⟨_,_,_,rfl⟩:=hp'.sh;exact ⟨_,_,zaA (zad rfl (zad rfl rfl rfl) rfl) rfl e rfl rfl,a,b,hp'⟩
theorem zq0 {n:Int} {rs:List Road} (h0:1<=n) (h1:n<=100) (k:Int) (p:O) (m:Int) (h:PuOk p m) (hm:m<=1125899906842000):∃r p',zbl [.d (.int k),p,.d (netD n rs)]=.ok (.own (.d (.int r))) [.d (.int k),p',.d (netD n rs)] false/\0<=r/\r < n/\PuOk p' (m+4):=by
 obtain ⟨r,p',e,a,b,hp'⟩:=zcS h (by omega) h0 (by omega);obtain ⟨_,_,_,rfl⟩:=h.sh;obtain ⟨_,_,_,rfl⟩:=hp'.sh;have g0:=fun p=>ziF (n:=n) (rs:=rs) (ρ:=[.d (.int k),p,.d (netD n rs)]) (j:=2) rfl
 generalize netD n rs=N at *;exact ⟨_,_,zaA (zad rfl (zad (zbb rfl (zaN rfl rfl rfl) rfl (g0 _)) rfl rfl) rfl) rfl e rfl rfl,a,b,hp'⟩
open F30 (cel detL zbw zdB zf4 detE)
theorem znU (xs:List Road) (r:Road):za2 (xs++[r]) (xs.length:Int)=some r:=zeQ (by simp)
theorem ziW {n p q s A B:Int} {xs:List Road} {r:Road} (hs:cel n (xs++[r]) p q=some s) (h1:cel n (xs++[r]) p r.1=some A) (h2:cel n (xs++[r]) r.2.1 q=some B) (e:A+r.2.2+B=s) (no:cel n xs p q=none):(xs.length:Int)∈(detL n (xs++[r]) p q).map Prod.fst:=by
 have hx:(xs++[r])[xs.length]? = some r:=by simp
 have t:(xs.length:Int)∈zbw n (xs++[r]) p q:=by
  unfold zbw;rw[if_neg (by rw[hs];simp)];unfold zdB;refine List.mem_map.mpr ⟨xs.length,List.mem_filter.mpr ⟨List.mem_range.mpr (by simp), ?_⟩,rfl⟩;unfold zf4;rw[hx];dsimp only;rw[h1,h2,hs];exact decide_eq_true (congrArg some e)
 have sh:F29.zfl (xs++[r]) (xs.length:Int).toNat=xs:=by
  unfold F29.zfl;rw[Int.toNat_natCast,List.take_left',List.drop_eq_nil_of_le (by simp),List.append_nil];rfl
 unfold detL;rw[hs];refine List.mem_map.mpr ⟨((xs.length:Int),none),List.mem_flatMap.mpr ⟨_,t, ?_⟩,rfl⟩;unfold detE;rw[sh,no];exact List.mem_singleton_self _
theorem zjx:fEq false (.l []) (.l [])=some (.d (.bool true)):=rfl
theorem zhP {n p q:Int} {rs:List Road} (ok:zaL n rs) (T:Taut rs) (hp:0<=p/\p < n) (hq:0<=q/\q < n) {d:Int} (h:Dist rs p q d):cel n rs p q=some d:=(zbu ok T hp hq).mpr h
theorem zdM {n p q:Int} {rs:List Road} (ok:zaL n rs) (T:Taut rs) (hp:0<=p/\p < n) (hq:0<=q/\q < n) (h:∀M,¬Wk rs p q M):cel n rs p q=none:=(zej ok T hp hq).mpr h
theorem zkC {p:O} {m c d:Int} {a b:List Road} (ha:zaL c a) (hb:zaL d b) (Ta:Taut a) (Tb:Taut b) (hc:c+d<=20) (hl:a.length+b.length<=59) (c1:1<=c) (d1:1<=d) (hp:PuOk p m) (hm:m<=1125899906840000) :
  ∃p',zbB [p,.d (netD c a),.d (netD d b)]=.ok (.d (.bool true)) [p']/\PuOk p' (m+40):=by
 have ia:=zf6 ha;have ib:=zf6 hb;obtain ⟨a0,b0,p1,q1,e1,⟨a00,a01⟩,⟨b00,b01⟩,hp1⟩:=zhT (j:=3) (A:=zbn) (o:=.d (.int c)) (rest:=[.d (netD c a),.d (netD d b),.d (.int c),.z,.z,.z,.z,.z,.z,.z,.z,.z,.z,.z,.z,.z]) (zrL c1 (by omega)) (fun _=>rfl) (fun _ _ _=>rfl) hp (by omega);obtain ⟨e0,f0,p2,q2,e2,⟨e00,e01⟩,⟨f00,f01⟩,hp2⟩:=zhT (j:=2) (A:=zbl) (o:=.d (netD d b)) (rest:=[.d (netD c a),.d (netD d b),.d (.int c),.d (.int a0),.d (.int b0),.z,.z,.z,.z,.z,.z,.z,.z,.z,.z,.z]) (zq0 d1 (by omega)) (fun _=>rfl) (fun _ _ _=>rfl) hp1 (by omega);obtain ⟨L,p3,e3,L0,L1,hp3⟩:=ziA hp2 (by omega) (x:=1000000000) (by decide) (by decide);rw[show max (1000000000:Int) 30=1000000000 by decide] at L0 L1;have r1:(b0,c+e0,L).1 < c:=b01;have r2:c<=(b0,c+e0,L).2.1:=by dsimp only;omega
 have okS:=zlv ha hb hc (by omega);have TS:=zff ia ib Ta Tb;have TX:=zqE ia ib Ta Tb r1 r2;have sl:(side c a b).length=a.length+b.length:=by simp[side]
 have okX:zaL (c+d) (side c a b++[(b0,c+e0,L)]):=⟨okS.n0,okS.n1,by rw[List.length_append,sl];simp;omega,fun r hr=>by
  rcases List.mem_append.mp hr with h | h
  .exact okS.rd r h
  .obtain rfl:=List.mem_singleton.mp h;exact ⟨⟨b00,by dsimp only;omega⟩,⟨by dsimp only;omega,by dsimp only;omega⟩,by dsimp only;omega,by dsimp only;omega⟩⟩
 have hr:=znU (side c a b) (b0,c+e0,L);have back:∀M,¬Wk (side c a b++[(b0,c+e0,L)]) (c+f0) a0 M:=znA ia ib r1 r2 (by omega) a01;have pa:0<=a0/\a0 < c+d:=by omega
 have pf:0<=c+f0/\c+f0 < c+d:=by omega
 have hf:∃t0,zbe [.d (netD (c+d) (side c a b++[(b0,c+e0,L)])),.d (.int ((side c a b).length:Int))]=.ok (.t [.d (.str "free"),t0]) []:=by
  rcases F24.zlP okX TX hr with ⟨_,R,e,_⟩ | ⟨W,hs,lw,_⟩
  .exact ⟨_,e⟩
  .exact absurd lw.ds.1 (znA ia ib r1 r2 r2 b01 _)
 have hle:∃l0,za5 [.d (netD (c+d) (side c a b++[(b0,c+e0,L)])),.d (.int (c+f0)),.d (.int a0)]=.ok (.t [.d (.str "none"),l0]) []:=by
  rcases zhI okX TX pf pa with ⟨_,R,e,_⟩ | ⟨W,hs,e,lw⟩
  .exact ⟨_,e⟩
  .exact absurd lw.ds.1 (back _)
 obtain ⟨t0,hf⟩:=hf;obtain ⟨l0,hle⟩:=hle;have sa:=zcp c.toNat a;have sb:=zcp d.toNat b;have ta:=zdD ha Ta;have tb:=zdD hb Tb;obtain ⟨ra,i1,j1⟩:=F30.zkR (ρ:=[]) (i:=a0) (j:=b0) sa (by omega) (by omega);obtain ⟨rb,i2,j2⟩:=F30.zkR (ρ:=[]) (i:=e0) (j:=f0) sb (by omega) (by omega);have cA:=fun z=>zbu ha Ta (p:=a0) (q:=b0) (by omega) (by omega) (d:=z)
 have cB:=fun z=>zbu hb Tb (p:=e0) (q:=f0) (by omega) (by omega) (d:=z)
 have nA:=zej ha Ta (p:=a0) (q:=b0) (by omega) (by omega);have nB:=zej hb Tb (p:=e0) (q:=f0) (by omega) (by omega);have on:=zpT (n:=d) (c:=c) (rs:=b) (by omega);have fa:=znS (a:=a.map zar) (b:=(b.map (up c)).map zar) (by simp;omega);have fb:=zo8 (a:=a.map zar++(b.map (up c)).map zar) (b:=[zar (b0,c+e0,L)]) (by simp;omega);have yl:((((a.map zar++(b.map (up c)).map zar)++[zar (b0,c+e0,L)]).map O.d).length:Int) - 1=(side c a b).length:=by
  rw[sl];simp;omega
 have fw:=zhQ (c+d) (side c a b++[(b0,c+e0,L)]);have nX:netO (c+d) (side c a b++[(b0,c+e0,L)])=.t [.d (.int (c+d)),.l (((a.map zar++(b.map (up c)).map zar)++[zar (b0,c+e0,L)]).map O.d)]:=by
  have e:(side c a b++[(b0,c+e0,L)]).map zar=a.map zar++(b.map (up c)).map zar++[zar (b0,c+e0,L)]:=by
   unfold side;rw[List.map_append,List.map_append];rfl
  unfold netO;rw[zhC,e]
 rw[nX] at fw;have g1:=fun (ρ:Rho) (h:ρ[1]? = some (.d (netD c a)))=>ziF h
 have g2:=fun (ρ:Rho) (h:ρ[2]? = some (.d (netD d b)))=>ziF h
 have gn:=fun (ρ:Rho) (h:ρ[1]? = some (.d (netD c a)))=>zf0 h
 have ff:=(zjY zgd);have fn:=(zjY zhm);obtain ⟨u0,v0,w0,rfl⟩:=hp.sh;obtain ⟨u1,v1,w1,rfl⟩:=hp1.sh;obtain ⟨u2,v2,w2,rfl⟩:=hp2.sh;obtain ⟨u3,v3,w3,rfl⟩:=hp3.sh;refine ⟨_, ?_,hp3.mono (by omega)⟩;have nd:=F30.zlw okX TX pa pf;have lo:((∀A,¬Wk a a0 b0 A)\/∀B,¬Wk b e0 f0 B)->∃w15,zcJ [.d (netD (c+d) (side c a b++[(b0,c+e0,L)])),.d (.int a0),.d (.int (c+f0)),.d (.int ((side c a b).length:Int))]=.ok (.d .none) []/\za5 [.d (netD (c+d) (side c a b++[(b0,c+e0,L)])),.d (.int a0),.d (.int (c+f0))]=.ok (.t [.d (.str "none"),w15]) []/\za6 [.d (netD (c+d) (side c a b++[(b0,c+e0,L)])),.d (.int a0),.d (.int (c+f0))]=.ok (.l []) []:=fun no=>by
  have no':∀M,¬Wk (side c a b++[(b0,c+e0,L)]) a0 (c+f0) M:=zql ia ib r1 r2 a01 f00 (no.imp id fun h=>by
   rw[show ((b0,c+e0,L):Road).2.1 - c=e0 by dsimp only;omega];exact h)
  have e:detL (c+d) (side c a b++[(b0,c+e0,L)]) a0 (c+f0)=[]:=by
   unfold F30.detL;rw[zdM okX TX pa pf no']
  rw[e] at nd;rcases zrB okX TX pa pf hr with ⟨_,eb⟩ | ⟨W,A,B,dA,dB,_⟩
  .rcases zhI okX TX pa pf with ⟨_,R,el,_⟩ | ⟨W,hs,_,lw⟩
   .exact ⟨_,eb,el,nd⟩
   .exact absurd lw.ds.1 (no' _)
  .rcases no with h | h
   .rcases (wk_x ia ib r1 r2 dA.1).1 a01 with ⟨_,w⟩ | ⟨z,_⟩
    .exact absurd w (h _)
    .exact absurd z (by omega)
   .have:=((wk_x ia ib r1 r2 dB.1).2 r2).2
    rw[show ((b0,c+e0,L):Road).2.1 - c=e0 by dsimp only;omega,show c+f0 - c=f0 by omega] at this;exact absurd this (h _)
 unfold tabO rowO at *
 cases hA:cell (zaP c.toNat a) a0.toNat b0.toNat with
 | none=>
  rw[hA] at j1;obtain ⟨w15,eb,el,ed⟩:=lo (.inl (nA.mp hA));exact zbX (n:=17) rfl (zi5 g1 g2 gn e1 e2 e3 rfl on fa fb yl ta i1 j1 tb i2 j2 fw hf hle ff fn eb (.inr rfl) el (zlA (or_t (za4 (zax rfl rfl rfl rfl rfl rfl) rfl)) ed zdC zjx)) rfl
 | some A=>
  rw[hA] at j1;have DA:=(cA A).mp hA
  cases hB:cell (zaP d.toNat b) e0.toNat f0.toNat with
  | none=>
   rw[hB] at j2;obtain ⟨w15,eb,el,ed⟩:=lo (.inr (nB.mp hB));exact zbX (n:=17) rfl (zi5 g1 g2 gn e1 e2 e3 rfl on fa fb yl ta i1 j1 tb i2 j2 fw hf hle ff fn eb (.inr rfl) el (zlA (or_f (za4 (zax rfl rfl rfl rfl rfl rfl) rfl) (za4 (zax rfl rfl rfl rfl rfl rfl) rfl)) ed zdC zjx)) rfl
  | some B=>
   rw[hB] at j2;have DB:=(cB B).mp hB;have e21:((b0,c+e0,L):Road).2.1 - c=e0:=by dsimp only;omega
   have D:Dist (side c a b++[(b0,c+e0,L)]) a0 (c+f0) (A+L+B):=znr ia ib r1 r2 a01 f00 DA (by rw[e21];exact DB);have D1:Dist (side c a b++[(b0,c+e0,L)]) a0 b0 A:=x_l ia ib r1 r2 a01 DA b01;have D3:Dist (side c a b++[(b0,c+e0,L)]) (c+e0) (c+f0) B:=x_r ia ib r1 r2 e00 DB;have D2:Dist (side c a b++[(b0,c+e0,L)]) b0 (c+e0) L:=by
    have z:Dist a b0 b0 0:=⟨.nil _,fun M w=>Ta _ _ w⟩;have z':Dist b e0 e0 0:=⟨.nil _,fun M w=>Tb _ _ w⟩
    have:=znr (p:=b0) (q:=e0) ia ib r1 r2 b01 e00 z (by rw[e21];exact z')
    rwa [show (0:Int)+((b0,c+e0,L):Road).2.2+0=L by dsimp only;omega] at this
   have pb:0<=b0/\b0 < c+d:=by omega
   have pe:0<=c+e0/\c+e0 < c+d:=by omega
   have th:=zku okX TX pa pb pe pf D1 D2 D3;have inn:=ziW (n:=c+d) (xs:=side c a b) (r:=(b0,c+e0,L)) (zhP okX TX pa pf D) (zhP okX TX pa pb D1) (zhP okX TX pe pf D3) rfl (zdM okS TS pa pf (zmb ia ib a01 (by omega)));have fi:=zgg true ((detL (c+d) (side c a b++[(b0,c+e0,L)]) a0 (c+f0)).map Prod.fst) ((side c a b).length:Int);rw[if_pos rfl,decide_eq_true inn] at fi;rcases zrB okX TX pa pf hr with ⟨h | h,_⟩ | ⟨W,A',B',dA,dB,_,eb⟩
   .exact absurd D1.1 (h _)
   .exact absurd D3.1 (h _)
   .obtain rfl:=dA.uniq D1;obtain rfl:=dB.uniq D3;rcases zhI okX TX pa pf with ⟨h,_⟩ | ⟨V,hs,el,lw⟩
    .exact absurd D.1 (h _)
    .have eV:=lw.ds.uniq D;have lV:=lw.lW;have len:=zh2 okX pa pf lw.ld (by omega);rw[eV] at len;have fV:=zdY V;have f15:fz (.t [.d (.str "way"),zal V,zal hs])=some (.tuple [.str "way",zb2 V,zb2 hs]):=by
      have f2:=zdY hs;simp[fz,fzs,fV,f2,zb2]
     have fd:fEq true (.d (.int (A'+L+B'))) (.d (.int (A'+L+B')))=some (.d (.bool false)):=by simp
     have fe:fEq false (.d (.int (A'+L+B'))) (.d (.int (A'+L+B')))=some (.d (.bool true)):=by simp
     have tl:=@zlq;unfold zal at el fV f15;exact zbX (n:=17) rfl (zi5 g1 g2 gn e1 e2 e3 rfl on fa fb yl ta i1 j1 tb i2 j2 fw hf hle ff fn eb (.inl rfl) el (zlq fV f15 fd fe len nd fi th)) rfl
end F43
namespace F43
theorem zjN {ms:List Bool} {i:Nat} {rs:List Rv} {ρ ρ2:Rho} {X:List O} {os:List O} {is:List Nat} (h:ρ[i]? = some (.l X)) (k:pass ms rs (ρ.set i .z)=some (os,is,ρ2)):pass (true::ms) (.at i []::rs) ρ=some (.l X::os,i::is,ρ2):=by
 unfold pass;rw[h];dsimp only;rw[k]
theorem ztl {V W:TF} {ρ ρ1:Rho} {q1:Bool} (h:V ρ=.ok false ρ1 q1):gAnd V W ρ=.ok false ρ1 (q1&&true):=zdh h rfl
theorem znW (ns:List Int) {k:Int} (k0:0<=k) (k1:k < 2) {z2 z3 z4:O} :
  ∃u2 u3 u4,zdN [.q (ns.map V.int),.d (.int k),z2,z3,z4]=.nx [.q (ns.map V.int),.d (.int k),u2,u3,u4]:=by
 obtain ⟨p,e1,hp⟩:=zmQ ns k0 (by omega);obtain ⟨c,a,p1,eN,Na,Ta,hp1⟩:=znL hp (by omega) (most:=6) (many:=9) (by decide) (by decide) (by decide) (by decide);obtain ⟨d,b,p2,e3,Nb,Tb,hp2⟩:=znL hp1 (by omega) (most:=6) (many:=9) (by decide) (by decide) (by decide) (by decide);have ha:zaL c a:=Na.ok (by decide) (by decide) (by decide);have hb:zaL d b:=Nb.ok (by decide) (by decide) (by decide);have c0:=Na.n0;have c1:c<=6:=Na.n1;have d0:=Nb.n0;have d1:d<=6:=Nb.n1;have la:a.length<=18:=Na.len;have lb:b.length<=18:=Nb.len;have b1:=ziw ha hb Ta Tb (by omega) (by omega);have b2:=ziw hb ha Tb Ta (by omega) (by omega);obtain ⟨x0,y0,w0,rfl⟩:=hp.sh;obtain ⟨x1,y1,w1,rfl⟩:=hp1.sh;have fa:=zhQ c a;have fb:=zhQ d b;have mu:fMul (.d (.int c)) (.d (.int d))=some (.d (.int (c * d))):=zgX (by omega) (by omega);have g3:=fun p=>ziF (n:=c) (rs:=a) (ρ:=[.q (ns.map V.int),.d (.int k),p,.d (netD c a),.d (netD d b)]) (j:=3) rfl
 have g4:=fun p=>ziF (n:=d) (rs:=b) (ρ:=[.q (ns.map V.int),.d (.int k),p,.d (netD c a),.d (netD d b)]) (j:=4) rfl
 have s1:(sAsg coe (zan [false,false] zbW (zae (zab 0) (zae (zab 1) aNil))) (gtN 2)) [.q (ns.map V.int),.d (.int k),z2,z3,z4]=.nx [.q (ns.map V.int),.d (.int k),.l [.d (.int x0),.d (.int y0),.d (.int w0)],z3,z4]:=zaE (zaA (zad rfl (zad rfl rfl rfl) rfl) rfl e1 rfl rfl) rfl rfl;have s2:(sAsg coe (zan [true,false,false] zbs (zae (zab 2) (zae (eC (.int 6)) (zae (eC (.int 9)) aNil)))) (gtN 3)) [.q (ns.map V.int),.d (.int k),.l [.d (.int x0),.d (.int y0),.d (.int w0)],z3,z4]=.nx [.q (ns.map V.int),.d (.int k),.l [.d (.int x1),.d (.int y1),.d (.int w1)],netO c a,z4]:=by
  unfold netO at *;exact zaE (zaA (zad rfl (zad rfl (zad rfl rfl rfl) rfl) rfl) rfl eN rfl rfl) rfl rfl
 obtain ⟨x2,y2,w2,rfl⟩:=hp2.sh;have s3:(sAsg coe (zan [true,false,false] zbs (zae (zab 2) (zae (eC (.int 6)) (zae (eC (.int 9)) aNil)))) (gtN 4)) [.q (ns.map V.int),.d (.int k),.l [.d (.int x1),.d (.int y1),.d (.int w1)],netO c a,z4]=.nx [.q (ns.map V.int),.d (.int k),.l [.d (.int x2),.d (.int y2),.d (.int w2)],netO c a,netO d b]:=by
  generalize netO c a=Na at *;unfold netO at *;exact zaE (zaA (zad rfl (zad rfl (zad rfl rfl rfl) rfl) rfl) rfl e3 rfl rfl) rfl rfl
 have t1:(gNot (eSc trV (zan [false,false] zaU (zae (zab 3) (zae (zab 4) aNil))))) [.q (ns.map V.int),.d (.int k),.l [.d (.int x2),.d (.int y2),.d (.int w2)],netO c a,netO d b]=.ok false [.q (ns.map V.int),.d (.int k),.l [.d (.int x2),.d (.int y2),.d (.int w2)],netO c a,netO d b] false:=by
  unfold netO zbM at *;generalize netD c a=N at *;generalize netD d b=M at *;exact zkK (zaN (zbD (zad rfl (zad rfl rfl rfl) rfl) (zca (zih rfl fa) (zca (zih rfl fb) rfl)) b1 rfl) rfl rfl)
 have t2:(gNot (eSc trV (zan [false,false] zaU (zae (zab 4) (zae (zab 3) aNil))))) [.q (ns.map V.int),.d (.int k),.l [.d (.int x2),.d (.int y2),.d (.int w2)],netO c a,netO d b]=.ok false [.q (ns.map V.int),.d (.int k),.l [.d (.int x2),.d (.int y2),.d (.int w2)],netO c a,netO d b] false:=by
  unfold netO zbM at *;generalize netD c a=N at *;generalize netD d b=M at *;exact zkK (zaN (zbD (zad rfl (zad rfl rfl rfl) rfl) (zca (zih rfl fb) (zca (zih rfl fa) rfl)) b2 rfl) rfl rfl)
 have i3:∀p,eIx (zab 3) (eC (.int 0)) [.q (ns.map V.int),.d (.int k),p,netO c a,netO d b]=.ok (.own (.d (.int c))) [.q (ns.map V.int),.d (.int k),p,netO c a,netO d b] (true&&true):=fun p=>by
  unfold netO;exact zbb rfl (zaN rfl rfl rfl) rfl rfl
 have i4:∀p,eIx (zab 4) (eC (.int 0)) [.q (ns.map V.int),.d (.int k),p,netO c a,netO d b]=.ok (.own (.d (.int d))) [.q (ns.map V.int),.d (.int k),p,netO c a,netO d b] (true&&true):=fun p=>by
  generalize netO c a=Na at *;unfold netO;exact zbb rfl (zaN rfl rfl rfl) rfl rfl
 have t3:(tst (e2 (e2 (eIx (zab 3) (eC (.int 0))) (eIx (zab 4) (eC (.int 0))) fMul) (eC (.int 0)) fGt)) [.q (ns.map V.int),.d (.int k),.l [.d (.int x2),.d (.int y2),.d (.int w2)],netO c a,netO d b]=.ok (decide (0 < c * d)) [.q (ns.map V.int),.d (.int k),.l [.d (.int x2),.d (.int y2),.d (.int w2)],netO c a,netO d b] true:=by
  generalize netO c a=Na at *;generalize netO d b=Nb at *;exact za4 (zax (zax (i3 _) (i4 _) rfl rfl rfl mu) rfl rfl rfl rfl rfl) rfl
 have s4:(sIf (gOr (gNot (eSc trV (zan [false,false] zaU (zae (zab 3) (zae (zab 4) aNil))))) (gNot (eSc trV (zan [false,false] zaU (zae (zab 4) (zae (zab 3) aNil)))))) (sRet mov (eC (.bool false))) sNil) [.q (ns.map V.int),.d (.int k),.l [.d (.int x2),.d (.int y2),.d (.int w2)],netO c a,netO d b]=.nx [.q (ns.map V.int),.d (.int k),.l [.d (.int x2),.d (.int y2),.d (.int w2)],netO c a,netO d b]:=if_f (or_f t1 t2) rfl;have s5:∃u2 u3 u4,(sIf (gAnd (tst (e2 (e2 (eIx (zab 3) (eC (.int 0))) (eIx (zab 4) (eC (.int 0))) fMul) (eC (.int 0)) fGt)) (gNot (eSc trV (zan [true,false,false] zbB (zae (zab 2) (zae (zab 3) (zae (zab 4) aNil))))))) (sRet mov (eC (.bool false))) sNil) [.q (ns.map V.int),.d (.int k),.l [.d (.int x2),.d (.int y2),.d (.int w2)],netO c a,netO d b]=.nx [.q (ns.map V.int),.d (.int k),u2,u3,u4]:=by
  by_cases h:0 < c * d
  .rw[decide_eq_true h] at t3;have cc:1<=c:=by
    rcases Int.lt_or_le c 1 with z | z
    .have:c=0:=by omega
     subst this;simp at h
    .exact z
   have dd:1<=d:=by
    rcases Int.lt_or_le d 1 with z | z
    .have:d=0:=by omega
     subst this;simp at h
    .exact z
   obtain ⟨p3,e4,hp3⟩:=zkC ha hb Ta Tb (by omega) (by omega) cc dd hp2 (by omega);obtain ⟨x3,y3,w3,rfl⟩:=hp3.sh;have cl:zan [true,false,false] zbB (zae (zab 2) (zae (zab 3) (zae (zab 4) aNil))) [.q (ns.map V.int),.d (.int k),.l [.d (.int x2),.d (.int y2),.d (.int w2)],netO c a,netO d b]=.ok (.own (.d (.bool true))) [.q (ns.map V.int),.d (.int k),.l [.d (.int x3),.d (.int y3),.d (.int w3)],.d (netD c a),.d (netD d b)] false:=by
    unfold netO zbM at *;generalize netD c a=N at *;generalize netD d b=M at *;exact zaA (zad rfl (zad rfl (zad rfl rfl rfl) rfl) rfl) (zjN rfl (zca (zih rfl fa) (zca (zih rfl fb) rfl))) e4 rfl rfl
   exact ⟨_,_,_,if_f (zs7 t3 (zkK (zaN cl rfl rfl))) rfl⟩
  .rw[decide_eq_false h] at t3;exact ⟨_,_,_,if_f (ztl t3) rfl⟩
 obtain ⟨u2,u3,u4,s5⟩:=s5;exact ⟨u2,u3,u4,L2.zaq s1 (L2.zaq s2 (L2.zaq s3 (L2.zaq s4 s5)))⟩
theorem zhH (ns:List Int) (_:ns.length<=63):∃ρ',zfD (.q (ns.map V.int)::List.replicate 4 .z)=.rt (.d (.bool true)) ρ':=by
 obtain ⟨ρ',e,u1,u2,u3,u4,rfl⟩:=zcK (G:=gtN 1) (S:=zdN) (items:=rngO 0 2) (ρ:=[.q (ns.map V.int),.z,.z,.z,.z])
  (fun i ρ=>∃u1 u2 u3 u4,ρ=[.q (ns.map V.int),u1,u2,u3,u4]) ⟨_,_,_,_,rfl⟩
  (fun i x ρ hx hx__=>by
   obtain ⟨u1,u2,u3,u4,e⟩:=hx__;obtain ⟨hi,rfl⟩:=zdR hx;subst e;obtain ⟨v2,v3,v4,st⟩:=znW ns (k:=0+i) (by omega) (by omega) (z2:=u2) (z3:=u3) (z4:=u4);exact ⟨_,_,rfl,st,_,_,_,_,rfl⟩)
 have e':forF (gtN 1) zdN (rngO 0 (2:Int).toNat) [.q (ns.map V.int),.z,.z,.z,.z]=_:=e;exact ⟨_,L2.zaq (zlg (zjM (zaN rfl rfl rfl) rfl rfl) e') (zbm rfl rfl)⟩
end F43
theorem zhH (ns:List Int) (h:ns.length<=63):∃ρ',zfD (.q (ns.map V.int)::List.replicate 4 .z)=.rt (.d (.bool true)) ρ':=F43.zhH ns h
theorem vri {X:Cx} {E:XK} {i:Int} {j pos}:VR X E (.Constant (.int i) j pos) (eC (.int i)):=zaw znI fun _ _=>.int _
theorem vrb {X:Cx} {E:XK} {i:Bool} {j pos}:VR X E (.Constant (.bool i) j pos) (eC (.bool i)):=zaw ztc fun _ _=>.bl _
theorem ln1 {A:Type}:∀{us:List A},us.length=1->∃a0,us=[a0]
 | [a0],_=>⟨a0,rfl⟩
theorem ln2 {A:Type}:∀{us:List A},us.length=2->∃a0 a1,us=[a0,a1]
 | [a0,a1],_=>⟨a0,a1,rfl⟩
theorem ln3 {A:Type}:∀{us:List A},us.length=3->∃a0 a1 a2,us=[a0,a1,a2]
 | [a0,a1,a2],_=>⟨a0,a1,a2,rfl⟩
theorem ln4 {A:Type}:∀{us:List A},us.length=4->∃a0 a1 a2 a3,us=[a0,a1,a2,a3]
 | [a0,a1,a2,a3],_=>⟨a0,a1,a2,a3,rfl⟩
def top (i:Nat):Stmt:=PySem.Challenge.pw_tautroads_k43_whole_nets_beside_one_anot.main.body.getD i (.Pass ⟨0,0,0,0⟩)
abbrev zgm:Stmt:=top 53
theorem zkc:zay ["_law_script","_law_k"] ["_law_script","_law_k"] (zam zgm):=⟨rfl,rfl,rfl,by decide +kernel,rfl,by decide +kernel,by decide +kernel⟩
abbrev zeu:Stmt:=top 55
theorem sc__law_purse:zay ["_law_script","_law_at_here","_law_cell"] ["_law_script","_law_at_here"] (zam zeu):=⟨rfl,rfl,rfl,by decide +kernel,rfl,by decide +kernel,by decide +kernel⟩
abbrev zeG:Stmt:=top 54
theorem sc__law_mixed:zay ["_law_cell","_law_k","_law_number_here"] ["_law_cell","_law_k"] (zam zeG):=⟨rfl,rfl,rfl,by decide +kernel,rfl,by decide +kernel,by decide +kernel⟩
abbrev ze4:Stmt:=top 56
theorem sc__law_draw:zay ["_law_purse_here","_law_out_of","_law_drawn","_law_number_here","_law_k"] ["_law_purse_here","_law_out_of"] (zam ze4):=⟨rfl,rfl,rfl,by decide +kernel,rfl,by decide +kernel,by decide +kernel⟩
abbrev zd8:Stmt:=top 57
theorem sc__law_number:zay ["_law_purse_here","_law_most","_law_far"] ["_law_purse_here","_law_most"] (zam zd8):=⟨rfl,rfl,rfl,by decide +kernel,rfl,by decide +kernel,by decide +kernel⟩
abbrev zfO:Stmt:=top 58
theorem sc__law_net:zay ["_law_purse_here","_law_most","_law_many","_law_count","_law_high","_law_roads","_law_k","_law_one","_law_other","_law_slack"] ["_law_purse_here","_law_most","_law_many"] (zam zfO):=⟨rfl,rfl,rfl,by decide +kernel,rfl,by decide +kernel,by decide +kernel⟩
abbrev zfP:Stmt:=top 12
theorem ziY:zay ["count","number"] ["count","number"] (zam zfP):=⟨rfl,rfl,rfl,by decide +kernel,rfl,by decide +kernel,by decide +kernel⟩
abbrev zgj:Stmt:=top 13
theorem sc_is_road:zay ["count","road","start","end","length"] ["count","road"] (zam zgj):=⟨rfl,rfl,rfl,by decide +kernel,rfl,by decide +kernel,by decide +kernel⟩
abbrev ze5:Stmt:=top 14
theorem sc_check_net:zay ["net","count","roads","number","road"] ["net"] (zam ze5):=⟨rfl,rfl,rfl,by decide +kernel,rfl,by decide +kernel,by decide +kernel⟩
abbrev zeH:Stmt:=top 22
theorem sc_lower_once:zay ["roads","values","entries","last","number","start","end","length"] ["roads","values","entries"] (zam zeH):=⟨rfl,rfl,rfl,by decide +kernel,rfl,by decide +kernel,by decide +kernel⟩
abbrev zjh:Stmt:=top 23
theorem sc_lower:zay ["net","starts","count","roads","values","entries","last","turn"] ["net","starts"] (zam zjh):=⟨rfl,rfl,rfl,by decide +kernel,rfl,by decide +kernel,by decide +kernel⟩
abbrev zfL:Stmt:=top 24
theorem sc_way_back:zay ["net","entries","one","other","roads","way"] ["net","entries","one","other"] (zam zfL):=⟨rfl,rfl,rfl,by decide +kernel,rfl,by decide +kernel,by decide +kernel⟩
abbrev zef:Stmt:=top 25
theorem sc_ring_behind:zay ["net","entries","last","count","roads","place","step"] ["net","entries","last"] (zam zef):=⟨rfl,rfl,rfl,by decide +kernel,rfl,by decide +kernel,by decide +kernel⟩
abbrev zgN:Stmt:=top 26
theorem sc_heights:zay ["net","values","entries","last"] ["net"] (zam zgN):=⟨rfl,rfl,rfl,by decide +kernel,rfl,by decide +kernel,by decide +kernel⟩
abbrev zgv:Stmt:=top 59
theorem zkd:zay ["_law_net_here","_law_count"] ["_law_net_here","_law_count"] (zam zgv):=⟨rfl,rfl,rfl,by decide +kernel,rfl,by decide +kernel,by decide +kernel⟩
abbrev zew:Stmt:=top 27
theorem sc_check_taut:zay ["net","values","entries","last"] ["net"] (zam zew):=⟨rfl,rfl,rfl,by decide +kernel,rfl,by decide +kernel,by decide +kernel⟩
abbrev zev:Stmt:=top 31
theorem sc_lower_from:zay ["net","one","starts","values","entries","last"] ["net","one"] (zam zev):=⟨rfl,rfl,rfl,by decide +kernel,rfl,by decide +kernel,by decide +kernel⟩
abbrev zdj:Stmt:=top 30
theorem sc_places_reached:zay ["net","one","reached","at","start","end","length"] ["net","one"] (zam zdj):=⟨rfl,rfl,rfl,by decide +kernel,rfl,by decide +kernel,by decide +kernel⟩
abbrev zd1:Stmt:=top 38
theorem sc_lengths_from:zay ["net","one","values","entries","reached"] ["net","one"] (zam zd1):=⟨rfl,rfl,rfl,by decide +kernel,rfl,by decide +kernel,by decide +kernel⟩
abbrev ziZ:Stmt:=top 39
theorem zmL:zay ["net"] ["net"] (zam ziZ):=⟨rfl,rfl,rfl,by decide +kernel,rfl,by decide +kernel,by decide +kernel⟩
abbrev zeK:Stmt:=top 16
theorem zhJ:zay ["net","number"] ["net","number"] (zam zeK):=⟨rfl,rfl,rfl,by decide +kernel,rfl,by decide +kernel,by decide +kernel⟩
abbrev zfQ:Stmt:=top 32
theorem sc_least_in:zay ["net","one","other","reached","values","entries"] ["net","one","other"] (zam zfQ):=⟨rfl,rfl,rfl,by decide +kernel,rfl,by decide +kernel,by decide +kernel⟩
abbrev zes:Stmt:=top 19
theorem sc_way_length:zay ["net","way","roads"] ["net","way"] (zam zes):=⟨rfl,rfl,rfl,by decide +kernel,rfl,by decide +kernel,by decide +kernel⟩
abbrev zl9:Stmt:=top 35
theorem sc_fall:zay ["net","number","start","end","length","back","ring"] ["net","number"] (zam zl9):=⟨rfl,rfl,rfl,by decide +kernel,rfl,by decide +kernel,by decide +kernel⟩
abbrev zeF:Stmt:=top 60
theorem sc__law_falls:zay ["_law_net_here","_law_count","_law_found","_law_number_here","_law_told"] ["_law_net_here","_law_count"] (zam zeF):=⟨rfl,rfl,rfl,by decide +kernel,rfl,by decide +kernel,by decide +kernel⟩
abbrev zd6:Stmt:=top 61
theorem sc__law_beside:zay ["_law_one","_law_other","_law_count","_law_whole","_law_rows"] ["_law_one","_law_other"] (zam zd6):=⟨rfl,rfl,rfl,by decide +kernel,rfl,by decide +kernel,by decide +kernel⟩
abbrev zd7:Stmt:=top 15
theorem zgU:zay ["net","number"] ["net","number"] (zam zd7):=⟨rfl,rfl,rfl,by decide +kernel,rfl,by decide +kernel,by decide +kernel⟩
abbrev zdg:Stmt:=top 17
theorem zfB:zay ["net","one","other"] ["net","one","other"] (zam zdg):=⟨rfl,rfl,rfl,by decide +kernel,rfl,by decide +kernel,by decide +kernel⟩
abbrev zcb:Stmt:=top 41
theorem zep:zay ["net","one","other","number"] ["net","one","other","number"] (zam zcb):=⟨rfl,rfl,rfl,by decide +kernel,rfl,by decide +kernel,by decide +kernel⟩
abbrev s_by:Stmt:=top 43
theorem sc_by:zay ["net","one","other","number","start","end","length","ahead","behind","way"] ["net","one","other","number"] (zam s_by):=⟨rfl,rfl,rfl,by decide +kernel,rfl,by decide +kernel,by decide +kernel⟩
abbrev zi9:Stmt:=top 33
theorem zmC:zay ["net","one","other"] ["net","one","other"] (zam zi9):=⟨rfl,rfl,rfl,by decide +kernel,rfl,by decide +kernel,by decide +kernel⟩
abbrev zfK:Stmt:=top 37
theorem zjp:zay ["lengths"] ["lengths"] (zam zfK):=⟨rfl,rfl,rfl,by decide +kernel,rfl,by decide +kernel,by decide +kernel⟩
abbrev zi0:Stmt:=top 44
theorem sc_tight:zay ["net","one","other","rows","straight","told","number","start","end","length"] ["net","one","other"] (zam zi0):=⟨rfl,rfl,rfl,by decide +kernel,rfl,by decide +kernel,by decide +kernel⟩
abbrev zkN:Stmt:=top 42
theorem sc_shut:zay ["net","number","count","roads"] ["net","number"] (zam zkN):=⟨rfl,rfl,rfl,by decide +kernel,rfl,by decide +kernel,by decide +kernel⟩
abbrev zgs:Stmt:=top 45
theorem sc_detours:zay ["net","one","other","numbers","straight","told","number","around"] ["net","one","other"] (zam zgs):=⟨rfl,rfl,rfl,by decide +kernel,rfl,by decide +kernel,by decide +kernel⟩
abbrev zhE:Stmt:=top 46
theorem zlV:zay ["net","one","other"] ["net","one","other"] (zam zhE):=⟨rfl,rfl,rfl,by decide +kernel,rfl,by decide +kernel,by decide +kernel⟩
abbrev zdk:Stmt:=top 50
theorem zfJ:zay ["rows","stops"] ["rows","stops"] (zam zdk):=⟨rfl,rfl,rfl,by decide +kernel,rfl,by decide +kernel,by decide +kernel⟩
abbrev zfd:Stmt:=top 49
theorem sc_table_for:zay ["net","stops","stop"] ["net","stops"] (zam zfd):=⟨rfl,rfl,rfl,by decide +kernel,rfl,by decide +kernel,by decide +kernel⟩
abbrev zgp:Stmt:=top 51
theorem zkv:zay ["net","stops"] ["net","stops"] (zam zgp):=⟨rfl,rfl,rfl,by decide +kernel,rfl,by decide +kernel,by decide +kernel⟩
abbrev ziV:Stmt:=top 18
theorem sc_leads:zay ["net","one","other","way","roads","at","number"] ["net","one","other","way"] (zam ziV):=⟨rfl,rfl,rfl,by decide +kernel,rfl,by decide +kernel,by decide +kernel⟩
abbrev zeZ:Stmt:=top 20
theorem ziu:zay ["net","one","other","way"] ["net","one","other","way"] (zam zeZ):=⟨rfl,rfl,rfl,by decide +kernel,rfl,by decide +kernel,by decide +kernel⟩
abbrev zdX:Stmt:=top 62
theorem sc__law_crossed:zay ["_law_purse_here","_law_one","_law_other","_law_count","_law_near","_law_begin","_law_end","_law_far","_law_road","_law_net_here","_law_number_here","_law_first","_law_second","_law_told","_law_found","_law_path","_law_due"] ["_law_purse_here","_law_one","_law_other"] (zam zdX):=⟨rfl,rfl,rfl,by decide +kernel,rfl,by decide +kernel,by decide +kernel⟩
abbrev ziR:Stmt:=top 63
theorem sc_law:zay ["_law_script","_law_cell","_law_purse_here","_law_one","_law_other"] ["_law_script"] (zam ziR):=⟨rfl,rfl,rfl,by decide +kernel,rfl,by decide +kernel,by decide +kernel⟩
structure Tx (K:PySem.W.Frag) (mg:Str->Option Value):Prop where
 d__law_at:∃f fd,Fun K "_law_at" "_law_at" zgm f fd/\mg "_law_at"=some (.ref f)
 d__law_purse:∃f fd,Fun K "_law_purse" "_law_purse" zeu f fd/\mg "_law_purse"=some (.ref f)
 d__law_mixed:∃f fd,Fun K "_law_mixed" "_law_mixed" zeG f fd/\mg "_law_mixed"=some (.ref f)
 d__law_draw:∃f fd,Fun K "_law_draw" "_law_draw" ze4 f fd/\mg "_law_draw"=some (.ref f)
 d__law_number:∃f fd,Fun K "_law_number" "_law_number" zd8 f fd/\mg "_law_number"=some (.ref f)
 d__law_net:∃f fd,Fun K "_law_net" "_law_net" zfO f fd/\mg "_law_net"=some (.ref f)
 d_is_place:∃f fd,Fun K "is_place" "is_place" zfP f fd/\mg "is_place"=some (.ref f)
 d_is_road:∃f fd,Fun K "is_road" "is_road" zgj f fd/\mg "is_road"=some (.ref f)
 d_check_net:∃f fd,Fun K "check_net" "check_net" ze5 f fd/\mg "check_net"=some (.ref f)
 d_lower_once:∃f fd,Fun K "lower_once" "lower_once" zeH f fd/\mg "lower_once"=some (.ref f)
 d_lower:∃f fd,Fun K "lower" "lower" zjh f fd/\mg "lower"=some (.ref f)
 d_way_back:∃f fd,Fun K "way_back" "way_back" zfL f fd/\mg "way_back"=some (.ref f)
 d_ring_behind:∃f fd,Fun K "ring_behind" "ring_behind" zef f fd/\mg "ring_behind"=some (.ref f)
 d_heights:∃f fd,Fun K "heights" "heights" zgN f fd/\mg "heights"=some (.ref f)
 d__law_on:∃f fd,Fun K "_law_on" "_law_on" zgv f fd/\mg "_law_on"=some (.ref f)
 d_check_taut:∃f fd,Fun K "check_taut" "check_taut" zew f fd/\mg "check_taut"=some (.ref f)
 d_lower_from:∃f fd,Fun K "lower_from" "lower_from" zev f fd/\mg "lower_from"=some (.ref f)
 d_places_reached:∃f fd,Fun K "places_reached" "places_reached" zdj f fd/\mg "places_reached"=some (.ref f)
 d_lengths_from:∃f fd,Fun K "lengths_from" "lengths_from" zd1 f fd/\mg "lengths_from"=some (.ref f)
 d_table:∃f fd,Fun K "table" "table" ziZ f fd/\mg "table"=some (.ref f)
 d_check_road:∃f fd,Fun K "check_road" "check_road" zeK f fd/\mg "check_road"=some (.ref f)
 d_least_in:∃f fd,Fun K "least_in" "least_in" zfQ f fd/\mg "least_in"=some (.ref f)
 d_way_length:∃f fd,Fun K "way_length" "way_length" zes f fd/\mg "way_length"=some (.ref f)
 d_fall:∃f fd,Fun K "fall" "fall" zl9 f fd/\mg "fall"=some (.ref f)
 d__law_falls:∃f fd,Fun K "_law_falls" "_law_falls" zeF f fd/\mg "_law_falls"=some (.ref f)
 d__law_beside:∃f fd,Fun K "_law_beside" "_law_beside" zd6 f fd/\mg "_law_beside"=some (.ref f)
 d_check_place:∃f fd,Fun K "check_place" "check_place" zd7 f fd/\mg "check_place"=some (.ref f)
 d_check_question:∃f fd,Fun K "check_question" "check_question" zdg f fd/\mg "check_question"=some (.ref f)
 d_check_road_question:∃f fd,Fun K "check_road_question" "check_road_question" zcb f fd/\mg "check_road_question"=some (.ref f)
 d_by:∃f fd,Fun K "by" "by" s_by f fd/\mg "by"=some (.ref f)
 d_least:∃f fd,Fun K "least" "least" zi9 f fd/\mg "least"=some (.ref f)
 d_together:∃f fd,Fun K "together" "together" zfK f fd/\mg "together"=some (.ref f)
 d_tight:∃f fd,Fun K "tight" "tight" zi0 f fd/\mg "tight"=some (.ref f)
 d_shut:∃f fd,Fun K "shut" "shut" zkN f fd/\mg "shut"=some (.ref f)
 d_detours:∃f fd,Fun K "detours" "detours" zgs f fd/\mg "detours"=some (.ref f)
 d_needed:∃f fd,Fun K "needed" "needed" zhE f fd/\mg "needed"=some (.ref f)
 d_length_through:∃f fd,Fun K "length_through" "length_through" zdk f fd/\mg "length_through"=some (.ref f)
 d_table_for:∃f fd,Fun K "table_for" "table_for" zfd f fd/\mg "table_for"=some (.ref f)
 d_through:∃f fd,Fun K "through" "through" zgp f fd/\mg "through"=some (.ref f)
 d_leads:∃f fd,Fun K "leads" "leads" ziV f fd/\mg "leads"=some (.ref f)
 d_length_of:∃f fd,Fun K "length_of" "length_of" zeZ f fd/\mg "length_of"=some (.ref f)
 d__law_crossed:∃f fd,Fun K "_law_crossed" "_law_crossed" zdX f fd/\mg "_law_crossed"=some (.ref f)
 d_law:∃f fd,Fun K "law" "law" ziR f fd/\mg "law"=some (.ref f)
 n_enumerate:mg "enumerate"=none
 n_int:mg "int"=none
 n_len:mg "len"=none
 n_list:mg "list"=none
 n_max:mg "max"=none
 n_range:mg "range"=none
 n_sorted:mg "sorted"=none
 n_sum:mg "sum"=none
 n_zip:mg "zip"=none
 g_FAR:∃t,mg "FAR"=some (.int (40000000000) t)
 g_MOST_LENGTH:∃t,mg "MOST_LENGTH"=some (.int (1000000000) t)
 g_MOST_PLACES:∃t,mg "MOST_PLACES"=some (.int (20) t)
 g_MOST_ROADS:∃t,mg "MOST_ROADS"=some (.int (60) t)
 g_MOST_STOPS:∃t,mg "MOST_STOPS"=some (.int (7) t)
variable {P:Program} {w:World} {K:PySem.W.Frag} {mg:Str->Option Value} {base:Heap}
theorem zkT (T:Tx K mg):VDef P w K mg base "_law_at" ["_law_script","_law_k"] 1 [false,false] zdo:=by
 exact zaZ (S:=zeb) (n:=2) T.d__law_at (fun _ _ _ _ _ _ us hl=>by obtain ⟨_,_,rfl⟩:=ln2 hl;rfl) zkc rfl rfl (by decide) (fun f cdv A outer s H E hr=>
   (zaf (zcj (zbh zoN (zaa (pv 1)) (zch zfh rfl T.n_len PySem.boot_len (zac (zaa (pv 0)) zah)) (za9 _)) (zak (zaI zav (zaz (zaa (pv 0)) (zaa (pv 1)) (fun _ _=>rfl)))) za1)
   (zak (zaI zav vri))))
theorem zik (T:Tx K mg):VDef P w K mg base "_law_purse" ["_law_script","_law_at_here"] 2 [false,false] zbW:=by
 have c__law_at:=zkT (P:=P) (w:=w) (base:=base) T;exact zaZ (S:=zdf) (n:=3) T.d__law_purse (fun _ _ _ _ _ _ us hl=>by obtain ⟨_,_,rfl⟩:=ln2 hl;rfl) sc__law_purse rfl rfl (by decide) (fun f cdv A outer s H E hr=>
   (zaf (zaC (i:=2) zag sc__law_purse.nd rfl (Or.inl rfl) (by decide) (zai c__law_at hr (by decide) rfl (zaD rfl rfl rfl rfl) (zac (zaa (pv 0)) (zac (zaa (pv 1)) zah))))
   (zak (zaI zag (zcn zaO (zac (zch (zn7 rfl) rfl T.n_max PyProof.Rows.boot_max (zac (zaR zh6 (zaa (pv 2)) (zaR zjw vri vri)) (zac vri zah))) (zac (zaR zhf (zaa (pv 2)) vri) (zac (zaR zdQ vri (zaa (pv 1))) zah))))))))
theorem zh4 (T:Tx K mg):VDef P w K mg base "_law_mixed" ["_law_cell","_law_k"] 1 [false,false] zct:=by
 exact zaZ (S:=zdd) (n:=3) T.d__law_mixed (fun _ _ _ _ _ _ us hl=>by obtain ⟨_,_,rfl⟩:=ln2 hl;rfl) sc__law_mixed rfl rfl (by decide) (fun f cdv A outer s H E hr=>
   (zaf (zaC (i:=2) zag sc__law_mixed.nd rfl (Or.inl rfl) (by decide) (zaR zhf (zaR zaY (zaR zaY (zaR zaY (zaR zdQ (zaa (pv 0)) vri) (zaR zdQ (zaR zdQ vri (zaa (pv 1))) (zaa (pv 1)))) (zaa (pv 1))) vri) vri))
   (zaf (zaC (i:=2) zag sc__law_mixed.nd rfl (Or.inl rfl) (by decide) (zaR zhf (zaR zaY (zaR zdQ (zaa (pv 2)) (zaa (pv 2))) vri) vri))
   (zak (zaI zav (zaR zhf (zaR zdQ (zaa (pv 2)) vri) vri))))))
theorem zfc (T:Tx K mg):VDef P w K mg base "_law_draw" ["_law_purse_here","_law_out_of"] 2 [true,false] zas:=by
 have c__law_mixed:=zh4 (P:=P) (w:=w) (base:=base) T;exact zaZ (S:=zdx) (n:=5) T.d__law_draw (fun _ _ _ _ _ _ us hl=>by obtain ⟨_,_,rfl⟩:=ln2 hl;rfl) sc__law_draw rfl rfl (by decide) (fun f cdv A outer s H E hr=>
   (zaf (zcj (zbh zlh (zaz (zaa (pv 0)) vri (fun _ _=>rfl)) vri (za9 _)) (zaf (zaC (i:=2) zag sc__law_draw.nd rfl (Or.inl rfl) (by decide) (zaR zhf (zaz (zaa (pv 0)) vri (fun _ _=>rfl)) (zaa (pv 1))))
   (zaf (zim zag (zaR znR (zaz (zaa (pv 0)) vri (fun _ _=>rfl)) (zaa (pv 1))) (zaa (pv 0)) vri)
   (zak (zaI zav (zaa (pv 2)))))) za1)
   (zaf (zaC (i:=3) zag sc__law_draw.nd rfl (Or.inl rfl) (by decide) vri)
   (zaf (zeS PassesOwn.leaving rfl rfl T.n_range (zaR zaY vri (zaR znR (zrp (zaa (pv 1)) fun h=>zqX PySem.F.plainAttrs_int PySem.F.slot_int_bit_length PySem.F.type_int_bit_length zpd h) vri)) (zap (zao (i:=4) sc__law_draw.nd rfl (Or.inl rfl)) (by decide))
   (zaf (zim zag (zaR zaY (zaz (zaa (pv 0)) vri (fun _ _=>rfl)) vri) (zaa (pv 0)) vri)
   (zak (zaC (i:=3) zag sc__law_draw.nd rfl (Or.inl rfl) (by decide) (zaR zaY (zaR zdQ (zaa (pv 3)) vri) (zai c__law_mixed hr (by decide) rfl (zaD rfl rfl rfl rfl) (zac (zaz (zaa (pv 0)) vri (fun _ _=>rfl)) (zac (zaz (zaa (pv 0)) vri (fun _ _=>rfl)) zah))))))))
   (zak (zaI zav (zaR zhf (zaa (pv 3)) (zaa (pv 1)))))))))
theorem zfx (T:Tx K mg):VDef P w K mg base "_law_number" ["_law_purse_here","_law_most"] 3 [true,false] zbd:=by
 have c__law_draw:=zfc (P:=P) (w:=w) (base:=base) T;exact zaZ (S:=zcW) (n:=3) T.d__law_number (fun _ _ _ _ _ _ us hl=>by obtain ⟨_,_,rfl⟩:=ln2 hl;rfl) sc__law_number rfl rfl (by decide) (fun f cdv A outer s H E hr=>
   (zaf (zaC (i:=2) zag sc__law_number.nd rfl (Or.inl rfl) (by decide) (zaz (zcn zaO (zac vri (zac vri (zac vri (zac (zaa (pv 1)) zah))))) (zai c__law_draw hr (by decide) rfl (zaD rfl rfl rfl rfl) (zac (zaa (pv 0)) (zac vri zah))) (fun _ _=>rfl)))
   (zak (zaI zag (zaR zh6 (zai c__law_draw hr (by decide) rfl (zaD rfl rfl rfl rfl) (zac (zaa (pv 0)) (zac (zaR zaY (zaR zdQ vri (zaa (pv 2))) vri) zah))) (zaa (pv 2)))))))
theorem zkj (T:Tx K mg):VDef P w K mg base "_law_net" ["_law_purse_here","_law_most","_law_many"] 4 [true,false,false] zbs:=by
 have c__law_draw:=zfc (P:=P) (w:=w) (base:=base) T;have c__law_number:=zfx (P:=P) (w:=w) (base:=base) T;exact zaZ (S:=zdU) (n:=10) T.d__law_net (fun _ _ _ _ _ _ us hl=>by obtain ⟨_,_,_,rfl⟩:=ln3 hl;rfl) sc__law_net rfl rfl (by decide) (fun f cdv A outer s H E hr=>
   (zaf (zaC (i:=3) zag sc__law_net.nd rfl (Or.inl rfl) (by decide) (zai c__law_draw hr (by decide) rfl (zaD rfl rfl rfl rfl) (zac (zaa (pv 0)) (zac (zaR zaY (zaa (pv 1)) vri) zah))))
   (zaf (zmk (N':=["_law_k","_law_purse_here"]) (js:=[none,some 0]) (i:=4) sc__law_net.nd rfl (Or.inl rfl) (by decide) (zaa (pv 3)) rfl T.n_range rfl (by kernel_rfl) (by kernel_rfl) rfl (by decide) (fun _ _ _=>⟨(zap (zao (i:=0) (show List.Nodup [("_law_k":Str),("_law_purse_here":Str)] by decide +kernel) rfl (Or.inl rfl)) (by decide)),zcD,(zai c__law_number hr (by decide) rfl zb0 (zac (zaa (pv 1)) (zac (zaR zjw vri vri) zah)))⟩))
   (zaf (zaC (i:=5) zag sc__law_net.nd rfl (Or.inl rfl) (by decide) (zcn zaO zah))
   (zaf (zeS PassesOwn.leaving rfl rfl T.n_range (zaR zdQ (zai c__law_draw hr (by decide) rfl (zaD rfl rfl rfl rfl) (zac (zaa (pv 0)) (zac (zaR zaY (zaa (pv 2)) vri) zah))) (zii zqd rfl T.n_int PyProof.Rows.boot_int (zac (zfZ zlh (zaa (pv 3)) vri (za9 _)) zah))) (zap (zao (i:=6) sc__law_net.nd rfl (Or.inl rfl)) (by decide))
   (zaf (zaC (i:=7) zag sc__law_net.nd rfl (Or.inl rfl) (by decide) (zai c__law_draw hr (by decide) rfl (zaD rfl rfl rfl rfl) (zac (zaa (pv 0)) (zac (zaa (pv 3)) zah))))
   (zaf (zaC (i:=8) zag sc__law_net.nd rfl (Or.inl rfl) (by decide) (zai c__law_draw hr (by decide) rfl (zaD rfl rfl rfl rfl) (zac (zaa (pv 0)) (zac (zaa (pv 3)) zah))))
   (zaf (zaC (i:=9) zag sc__law_net.nd rfl (Or.inl rfl) (by decide) (zaz (zcn zaO (zac vri (zac vri (zac (zai c__law_draw hr (by decide) rfl (zaD rfl rfl rfl rfl) (zac (zaa (pv 0)) (zac vri zah))) (zac (zai c__law_draw hr (by decide) rfl (zaD rfl rfl rfl rfl) (zac (zaa (pv 0)) (zac (zaR zjw vri vri) zah))) zah))))) (zai c__law_draw hr (by decide) rfl (zaD rfl rfl rfl rfl) (zac (zaa (pv 0)) (zac vri zah))) (fun _ _=>rfl)))
   (zaf (zba (zed (zaa (pv 5)) (zci zaO (zac (zaa (pv 7)) (zac (zaa (pv 8)) (zac (zaR zaY (zaR zh6 (zaz (zaa (pv 4)) (zaa (pv 8)) (fun _ _=>rfl)) (zaz (zaa (pv 4)) (zaa (pv 7)) (fun _ _=>rfl))) (zaa (pv 9))) zah)))) fun h h'=>zhs PySem.F.plainAttrs_list PySem.F.slot_list_append PySem.F.type_list_append zcI h (zcL h' zdG)))
   (zak (zcj (zbh (zfk hr.units) (zai c__law_draw hr (by decide) rfl (zaD rfl rfl rfl rfl) (zac (zaa (pv 0)) (zac vri zah))) vri (za9 _)) (zak (zba (zed (zaa (pv 5)) (zaz (zaa (pv 5)) (zai c__law_draw hr (by decide) rfl (zaD rfl rfl rfl rfl) (zac (zaa (pv 0)) (zac (zch zfh rfl T.n_len PySem.boot_len (zac (zaa (pv 5)) zah)) zah))) (fun _ _=>rfl)) fun h h'=>zhs PySem.F.plainAttrs_list PySem.F.slot_list_append PySem.F.type_list_append zcI h (zcL h' zdG)))) za1)))))))
   (zak (zaI zav (zci zcq (zac (zaa (pv 3)) (zac (zaa (pv 5)) zah))))))))))
theorem zhd (T:Tx K mg):VDef P w K mg base "is_place" ["count","number"] 1 [false,false] zbI:=by
 exact zaZ (S:=zdr) (n:=2) T.d_is_place (fun _ _ _ _ _ _ us hl=>by obtain ⟨_,_,rfl⟩:=ln2 hl;rfl) ziY rfl rfl (by decide) (fun f cdv A outer s H E hr=>
   (zak (zaI zav (zjC zhr zmP vri (zaa (pv 1)) (zaa (pv 0))))))
theorem zlj (T:Tx K mg):VDef P w K mg base "is_road" ["count","road"] 2 [false,false] zc0:=by
 have c_is_place:=zhd (P:=P) (w:=w) (base:=base) T;exact zaZ (S:=zdS) (n:=5) T.d_is_road (fun _ _ _ _ _ _ us hl=>by obtain ⟨_,_,rfl⟩:=ln2 hl;rfl) sc_is_road rfl rfl (by decide) (fun f cdv A outer s H E hr=>
   (zaf (zdI zag (zaa (pv 1)) (zcz rfl (zat (zap (zao (i:=2) sc_is_road.nd rfl (Or.inl rfl)) (by decide)) (zat (zap (zao (i:=3) sc_is_road.nd rfl (Or.inl rfl)) (by decide)) (zat (zap (zao (i:=4) sc_is_road.nd rfl (Or.inl rfl)) (by decide)) zby))) 3 (zaj (zaj (zaj (fun _ _ _=>zaV))))))
   (zak (zaI zag (zh5 (zai c_is_place hr (by decide) rfl (zaD rfl rfl rfl rfl) (zac (zaa (pv 0)) (zac (zaa (pv 2)) zah))) (zh5 (zai c_is_place hr (by decide) rfl (zaD rfl rfl rfl rfl) (zac (zaa (pv 0)) (zac (zaa (pv 3)) zah))) (zkM (zjC zhr zhr (zti zqy (zaw (zgW rfl T.g_MOST_LENGTH) fun _ _=>.int _)) (zaa (pv 4)) (zaw (zgW rfl T.g_MOST_LENGTH) fun _ _=>.int _)))))))))
theorem zdE (T:Tx K mg):VDef P w K mg base "check_net" ["net"] 3 [false] za7:=by
 have c_is_road:=zlj (P:=P) (w:=w) (base:=base) T;exact zaZ (S:=zdl) (n:=5) T.d_check_net (fun _ _ _ _ _ _ us hl=>by obtain ⟨_,rfl⟩:=ln1 hl;rfl) sc_check_net rfl rfl (by decide) (fun f cdv A outer s H E hr=>
   (zaf (zdI zag (zaa (pv 0)) (zcz rfl (zat (zap (zao (i:=1) sc_check_net.nd rfl (Or.inl rfl)) (by decide)) (zat (zap (zao (i:=2) sc_check_net.nd rfl (Or.inl rfl)) (by decide)) zby)) 2 (zaj (zaj (fun _ _ _=>zaV)))))
   (zaf (zcj (zeV (zge zhr zhr vri (zaa (pv 1)) (zaw (zgW rfl T.g_MOST_PLACES) fun _ _=>.int _))) (zak zfW) za1)
   (zaf (zcj (zbh zlh (zch zfh rfl T.n_len PySem.boot_len (zac (zaa (pv 2)) zah)) (zaw (zgW rfl T.g_MOST_ROADS) fun _ _=>.int _) (za9 _)) (zak zfW) za1)
   (zak (zju PassesOwn.leaving rfl rfl T.n_enumerate (zaa (pv 2)) (zcz rfl (zat (zap (zao (i:=3) sc_check_net.nd rfl (Or.inl rfl)) (by decide)) (zat (zap (zao (i:=4) sc_check_net.nd rfl (Or.inl rfl)) (by decide)) zby)) 2 (zaj (zaj (fun _ _ _=>zaV))))
   (zak (zcj (zeV (zg2 (zai c_is_road hr (by decide) rfl (zaD rfl rfl rfl rfl) (zac (zaa (pv 1)) (zac (zaa (pv 4)) zah))) (fun _=>rfl))) (zak zfW) za1))))))))
theorem zh0 (T:Tx K mg):VDef P w K mg base "lower_once" ["roads","values","entries"] 1 [false,true,true] zce:=by
 exact zaZ (S:=zcP) (n:=8) T.d_lower_once (fun _ _ _ _ _ _ us hl=>by obtain ⟨_,_,_,rfl⟩:=ln3 hl;rfl) sc_lower_once rfl rfl (by decide) (fun f cdv A outer s H E hr=>
   (zaf (zaC (i:=3) zag sc_lower_once.nd rfl (Or.inl rfl) (by decide) (zaw zcB fun _ _=>.non))
   (zaf (zju PassesOwn.leaving rfl rfl T.n_enumerate (zaa (pv 0)) (zcz rfl (zat (zap (zao (i:=4) sc_lower_once.nd rfl (Or.inl rfl)) (by decide)) (zat (zcz rfl (zat (zap (zao (i:=5) sc_lower_once.nd rfl (Or.inl rfl)) (by decide)) (zat (zap (zao (i:=6) sc_lower_once.nd rfl (Or.inl rfl)) (by decide)) (zat (zap (zao (i:=7) sc_lower_once.nd rfl (Or.inl rfl)) (by decide)) zby))) 3 (zaj (zaj (zaj (fun _ _ _=>zaV))))) zby)) 2 (zaj (zaj (fun _ _ _=>zaV))))
   (zak (zcj (zbh zoN (zaR zaY (zaz (zaa (pv 1)) (zaa (pv 5)) (fun _ _=>rfl)) (zaa (pv 7))) (zaz (zaa (pv 1)) (zaa (pv 6)) (fun _ _=>rfl)) (za9 _)) (zaf (zim zag (zaR zaY (zaz (zaa (pv 1)) (zaa (pv 5)) (fun _ _=>rfl)) (zaa (pv 7))) (zaa (pv 1)) (zaa (pv 6)))
   (zaf (zim zag (zaa (pv 4)) (zaa (pv 2)) (zaa (pv 6)))
   (zak (zaC (i:=3) zag sc_lower_once.nd rfl (Or.inl rfl) (by decide) (zaa (pv 6)))))) za1)))
   (zak (zaI zav (zaa (pv 3)))))))
theorem zjc (T:Tx K mg):VDef P w K mg base "lower" ["net","starts"] 2 [false,false] zbN:=by
 have c_lower_once:=zh0 (P:=P) (w:=w) (base:=base) T;exact zaZ (S:=zdJ) (n:=8) T.d_lower (fun _ _ _ _ _ _ us hl=>by obtain ⟨_,_,rfl⟩:=ln2 hl;rfl) sc_lower rfl rfl (by decide) (fun f cdv A outer s H E hr=>
   (zaf (zdI zag (zaa (pv 0)) (zcz rfl (zat (zap (zao (i:=2) sc_lower.nd rfl (Or.inl rfl)) (by decide)) (zat (zap (zao (i:=3) sc_lower.nd rfl (Or.inl rfl)) (by decide)) zby)) 2 (zaj (zaj (fun _ _ _=>zaV)))))
   (zaf (zaC (i:=4) zag sc_lower.nd rfl (Or.inl rfl) (by decide) (zii zn6 rfl T.n_list PyProof.Rows.boot_list (zac (zaa (pv 1)) zah)))
   (zaf (zaC (i:=5) zag sc_lower.nd rfl (Or.inl rfl) (by decide) (zaR zdQ (zcn zaO (zac (zaw zcB fun _ _=>.non) zah)) (zaa (pv 2))))
   (zaf (zaC (i:=6) zag sc_lower.nd rfl (Or.inl rfl) (by decide) (zaw zcB fun _ _=>.non))
   (zaf (zeS PassesOwn.leaving rfl rfl T.n_range (zaa (pv 2)) (zap (zao (i:=7) sc_lower.nd rfl (Or.inl rfl)) (by decide))
   (zaf (zaC (i:=6) zag sc_lower.nd rfl (Or.inl rfl) (by decide) (zai c_lower_once hr (by decide) rfl (zaD rfl rfl rfl rfl) (zac (zaa (pv 3)) (zac (zaa (pv 4)) (zac (zaa (pv 5)) zah)))))
   (zak (zcj (zbh zf1 (zaa (pv 6)) (zaw zcB fun _ _=>.non) (za9 _)) (zak zmI) za1))))
   (zak (zaI zav (zci zcq (zac (zaa (pv 4)) (zac (zaa (pv 5)) (zac (zaa (pv 6)) zah))))))))))))
theorem zg7 (T:Tx K mg):VDef P w K mg base "way_back" ["net","entries","one","other"] 1 [false,false,false,false] zb5:=by
 exact zaZ (S:=zcF) (n:=6) T.d_way_back (fun _ _ _ _ _ _ us hl=>by obtain ⟨_,_,_,_,rfl⟩:=ln4 hl;rfl) sc_way_back rfl rfl (by decide) (fun f cdv A outer s H E hr=>
   (zaf (zaC (i:=4) zag sc_way_back.nd rfl (Or.inl rfl) (by decide) (zaz (zaa (pv 0)) vri (fun _ _=>rfl)))
   (zaf (zaC (i:=5) zag sc_way_back.nd rfl (Or.inl rfl) (by decide) (zcn zaO (zac (zaz (zaa (pv 1)) (zaa (pv 3)) (fun _ _=>rfl)) zah)))
   (zaf (zjD PassesOwn.leaving (zbh (zi4 hr.units) (zaz (zaz (zaa (pv 4)) (zaz (zaa (pv 5)) (zaw zji fun _ _=>.int _) (fun _ _=>rfl)) (fun _ _=>rfl)) vri (fun _ _=>rfl)) (zaa (pv 2)) (za9 _))
   (zak (zba (zed (zaa (pv 5)) (zaz (zaa (pv 1)) (zaz (zaz (zaa (pv 4)) (zaz (zaa (pv 5)) (zaw zji fun _ _=>.int _) (fun _ _=>rfl)) (fun _ _=>rfl)) vri (fun _ _=>rfl)) (fun _ _=>rfl)) fun h h'=>zhs PySem.F.plainAttrs_list PySem.F.slot_list_append PySem.F.type_list_append zcI h (zcL h' zdG)))))
   (zak (zaI zav (zq9 (zaa (pv 5)) zji (fun _ _=>⟨_,by with_unfolding_all rfl⟩))))))))
theorem zhN (T:Tx K mg):VDef P w K mg base "ring_behind" ["net","entries","last"] 2 [false,false,false] zb3:=by
 have c_way_back:=zg7 (P:=P) (w:=w) (base:=base) T;exact zaZ (S:=zcG) (n:=7) T.d_ring_behind (fun _ _ _ _ _ _ us hl=>by obtain ⟨_,_,_,rfl⟩:=ln3 hl;rfl) sc_ring_behind rfl rfl (by decide) (fun f cdv A outer s H E hr=>
   (zaf (zdI zag (zaa (pv 0)) (zcz rfl (zat (zap (zao (i:=3) sc_ring_behind.nd rfl (Or.inl rfl)) (by decide)) (zat (zap (zao (i:=4) sc_ring_behind.nd rfl (Or.inl rfl)) (by decide)) zby)) 2 (zaj (zaj (fun _ _ _=>zaV)))))
   (zaf (zaC (i:=5) zag sc_ring_behind.nd rfl (Or.inl rfl) (by decide) (zaa (pv 2)))
   (zaf (zeS PassesOwn.leaving rfl rfl T.n_range (zaa (pv 3)) (zap (zao (i:=6) sc_ring_behind.nd rfl (Or.inl rfl)) (by decide))
   (zak (zaC (i:=5) zag sc_ring_behind.nd rfl (Or.inl rfl) (by decide) (zaz (zaz (zaa (pv 4)) (zaz (zaa (pv 1)) (zaa (pv 5)) (fun _ _=>rfl)) (fun _ _=>rfl)) vri (fun _ _=>rfl)))))
   (zak (zaI zag (zai c_way_back hr (by decide) rfl (zaD rfl rfl rfl rfl) (zac (zaa (pv 0)) (zac (zaa (pv 1)) (zac (zaa (pv 5)) (zac (zaa (pv 5)) zah)))))))))))
theorem zl1 (T:Tx K mg):VDef P w K mg base "heights" ["net"] 4 [false] zaT:=by
 have c_check_net:=zdE (P:=P) (w:=w) (base:=base) T;have c_lower:=zjc (P:=P) (w:=w) (base:=base) T;have c_ring_behind:=zhN (P:=P) (w:=w) (base:=base) T;exact zaZ (S:=zcY) (n:=4) T.d_heights (fun _ _ _ _ _ _ us hl=>by obtain ⟨_,rfl⟩:=ln1 hl;rfl) sc_heights rfl rfl (by decide) (fun f cdv A outer s H E hr=>
   (zaf (zba (zai c_check_net hr (by decide) rfl (zaD rfl rfl rfl rfl) (zac (zaa (pv 0)) zah)))
   (zaf (zdI zag (zai c_lower hr (by decide) rfl (zaD rfl rfl rfl rfl) (zac (zaa (pv 0)) (zac (zaR zdQ (zcn zaO (zac vri zah)) (zaz (zaa (pv 0)) vri (fun _ _=>rfl))) zah))) (zcz rfl (zat (zap (zao (i:=1) sc_heights.nd rfl (Or.inl rfl)) (by decide)) (zat (zap (zao (i:=2) sc_heights.nd rfl (Or.inl rfl)) (by decide)) (zat (zap (zao (i:=3) sc_heights.nd rfl (Or.inl rfl)) (by decide)) zby))) 3 (zaj (zaj (zaj (fun _ _ _=>zaV))))))
   (zaf (zcj (zbh zf1 (zaa (pv 3)) (zaw zcB fun _ _=>.non) (za9 _)) (zak (zaI zav (zci zcq (zac (zaw zda fun _ _=>.str _) (zac (zaa (pv 1)) zah))))) za1)
   (zak (zaI zav (zci zcq (zac (zaw zda fun _ _=>.str _) (zac (zai c_ring_behind hr (by decide) rfl (zaD rfl rfl rfl rfl) (zac (zaa (pv 0)) (zac (zaa (pv 2)) (zac (zaa (pv 3)) zah)))) zah)))))))))
theorem ziv (T:Tx K mg):VDef P w K mg base "_law_on" ["_law_net_here","_law_count"] 1 [false,false] zbV:=by
 exact zaZ (S:=zfg) (n:=2) T.d__law_on (fun _ _ _ _ _ _ us hl=>by obtain ⟨_,_,rfl⟩:=ln2 hl;rfl) zkd rfl rfl (by decide) (fun f cdv A outer s H E hr=>
   (zak (zaI zag (ziB true (N':=["_law_road","_law_count"]) (js:=[none,some 1]) (zaz (zaa (pv 0)) vri (fun _ _=>rfl)) rfl (by kernel_rfl) (by kernel_rfl) rfl (by decide) (fun _ _ _=>⟨(zap (zao (i:=0) (show List.Nodup [("_law_road":Str),("_law_count":Str)] by decide +kernel) rfl (Or.inl rfl)) (by decide)),zcD,(zci zaO (zac (zaR zaY (zaz (zaa (pv 0)) vri (fun _ _=>rfl)) (zaa (pv 1))) (zac (zaR zaY (zaz (zaa (pv 0)) vri (fun _ _=>rfl)) (zaa (pv 1))) (zac (zaz (zaa (pv 0)) vri (fun _ _=>rfl)) zah))))⟩)))))
theorem zdP (T:Tx K mg):VDef P w K mg base "check_taut" ["net"] 3 [false] zbf:=by
 have c_lower:=zjc (P:=P) (w:=w) (base:=base) T;exact zaZ (S:=zcR) (n:=4) T.d_check_taut (fun _ _ _ _ _ _ us hl=>by obtain ⟨_,rfl⟩:=ln1 hl;rfl) sc_check_taut rfl rfl (by decide) (fun f cdv A outer s H E hr=>
   (zaf (zdI zag (zai c_lower hr (by decide) rfl (zaD rfl rfl rfl rfl) (zac (zaa (pv 0)) (zac (zaR zdQ (zcn zaO (zac vri zah)) (zaz (zaa (pv 0)) vri (fun _ _=>rfl))) zah))) (zcz rfl (zat (zap (zao (i:=1) sc_check_taut.nd rfl (Or.inl rfl)) (by decide)) (zat (zap (zao (i:=2) sc_check_taut.nd rfl (Or.inl rfl)) (by decide)) (zat (zap (zao (i:=3) sc_check_taut.nd rfl (Or.inl rfl)) (by decide)) zby))) 3 (zaj (zaj (zaj (fun _ _ _=>zaV))))))
   (zak (zcj (zbh zn9 (zaa (pv 3)) (zaw zcB fun _ _=>.non) (za9 _)) (zak zfW) za1))))
theorem zf2 (T:Tx K mg):VDef P w K mg base "lower_from" ["net","one"] 3 [false,false] zbJ:=by
 have c_lower:=zjc (P:=P) (w:=w) (base:=base) T;exact zaZ (S:=zcN) (n:=6) T.d_lower_from (fun _ _ _ _ _ _ us hl=>by obtain ⟨_,_,rfl⟩:=ln2 hl;rfl) sc_lower_from rfl rfl (by decide) (fun f cdv A outer s H E hr=>
   (zaf (zaC (i:=2) zag sc_lower_from.nd rfl (Or.inl rfl) (by decide) (zaR zdQ (zcn zaO (zac (zaw (zgW rfl T.g_FAR) fun _ _=>.int _) zah)) (zaz (zaa (pv 0)) vri (fun _ _=>rfl))))
   (zaf (zim zag vri (zaa (pv 2)) (zaa (pv 1)))
   (zaf (zdI zag (zai c_lower hr (by decide) rfl (zaD rfl rfl rfl rfl) (zac (zaa (pv 0)) (zac (zaa (pv 2)) zah))) (zcz rfl (zat (zap (zao (i:=3) sc_lower_from.nd rfl (Or.inl rfl)) (by decide)) (zat (zap (zao (i:=4) sc_lower_from.nd rfl (Or.inl rfl)) (by decide)) (zat (zap (zao (i:=5) sc_lower_from.nd rfl (Or.inl rfl)) (by decide)) zby))) 3 (zaj (zaj (zaj (fun _ _ _=>zaV))))))
   (zak (zaI zav (zci zcq (zac (zaa (pv 3)) (zac (zaa (pv 4)) zah)))))))))
theorem zek (T:Tx K mg):VDef P w K mg base "places_reached" ["net","one"] 1 [false,false] za3:=by
 exact zaZ (S:=zb4) (n:=7) T.d_places_reached (fun _ _ _ _ _ _ us hl=>by obtain ⟨_,_,rfl⟩:=ln2 hl;rfl) sc_places_reached rfl rfl (by decide) (fun f cdv A outer s H E hr=>
   (zaf (zaC (i:=2) zag sc_places_reached.nd rfl (Or.inl rfl) (by decide) (zcn zaO (zac (zaa (pv 1)) zah)))
   (zaf (zaC (i:=3) zag sc_places_reached.nd rfl (Or.inl rfl) (by decide) vri)
   (zaf (zjD PassesOwn.leaving (zbh zoN (zaa (pv 3)) (zch zfh rfl T.n_len PySem.boot_len (zac (zaa (pv 2)) zah)) (za9 _))
   (zaf (zhu PassesOwn.leaving rfl (zaz (zaa (pv 0)) vri (fun _ _=>rfl)) (zcz rfl (zat (zap (zao (i:=4) sc_places_reached.nd rfl (Or.inl rfl)) (by decide)) (zat (zap (zao (i:=5) sc_places_reached.nd rfl (Or.inl rfl)) (by decide)) (zat (zap (zao (i:=6) sc_places_reached.nd rfl (Or.inl rfl)) (by decide)) zby))) 3 (zaj (zaj (zaj (fun _ _ _=>zaV)))))
   (zak (zcj (vt_w (znQ (zbh (zfk hr.units) (zaa (pv 4)) (zaz (zaa (pv 2)) (zaa (pv 3)) (fun _ _=>rfl)) (za9 _)) (zlz (zbh (zhG hr.units65) (zaa (pv 5)) (zaa (pv 2)) (by with_unfolding_all rfl))))) (zak (zba (zed (zaa (pv 2)) (zaa (pv 5)) fun h h'=>zhs PySem.F.plainAttrs_list PySem.F.slot_list_append PySem.F.type_list_append zcI h (zcL h' zdG)))) za1)))
   (zak (zrG (i:=3) sc_places_reached.nd rfl (Or.inl rfl) (by decide) vri zpz))))
   (zak (zaI zav (zch zk2 rfl T.n_sorted PyProof.Rows.boot_sorted (zac (zaa (pv 2)) zah))))))))
theorem zeW (T:Tx K mg):VDef P w K mg base "lengths_from" ["net","one"] 4 [false,false] zbg:=by
 have c_lower_from:=zf2 (P:=P) (w:=w) (base:=base) T;have c_places_reached:=zek (P:=P) (w:=w) (base:=base) T;exact zaZ (S:=zcw) (n:=5) T.d_lengths_from (fun _ _ _ _ _ _ us hl=>by obtain ⟨_,_,rfl⟩:=ln2 hl;rfl) sc_lengths_from rfl rfl (by decide) (fun f cdv A outer s H E hr=>
   (zaf (zdI zag (zai c_lower_from hr (by decide) rfl (zaD rfl rfl rfl rfl) (zac (zaa (pv 0)) (zac (zaa (pv 1)) zah))) (zcz rfl (zat (zap (zao (i:=2) sc_lengths_from.nd rfl (Or.inr rfl)) (by decide)) (zat (zap (zao (i:=3) sc_lengths_from.nd rfl (Or.inl rfl)) (by decide)) zby)) 2 (zaj (zaj (fun _ _ _=>zaV)))))
   (zaf (zaC (i:=4) zag sc_lengths_from.nd rfl (Or.inr rfl) (by decide) (zai c_places_reached hr (by decide) rfl (zaD rfl rfl rfl rfl) (zac (zaa (pv 0)) (zac (zaa (pv 1)) zah))))
   (zak (zaI zag (zfE (N':=["place","reached","values"]) (js:=[none,some 4,some 2]) (zaz (zaa (pv 0)) vri (fun _ _=>rfl)) rfl T.n_range rfl (by kernel_rfl) (by kernel_rfl) rfl (by decide) (fun _ _ _=>⟨(zap (zao (i:=0) (show List.Nodup [("place":Str),("reached":Str),("values":Str)] by decide +kernel) rfl (Or.inl rfl)) (by decide)),zcD,(zsn (zbh (zrx hr.units65) (zaa (pv 0)) (zaa (pv 1)) (by with_unfolding_all rfl)) (zaz (zaa (pv 2)) (zaa (pv 0)) (fun _ _=>rfl)) (zaw zcB fun _ _=>.non))⟩)))))))
theorem zhn (T:Tx K mg):VDef P w K mg base "table" ["net"] 5 [false] zaG:=by
 have c_check_net:=zdE (P:=P) (w:=w) (base:=base) T;have c_check_taut:=zdP (P:=P) (w:=w) (base:=base) T;have c_lengths_from:=zeW (P:=P) (w:=w) (base:=base) T;exact zaZ (S:=zeJ) (n:=1) T.d_table (fun _ _ _ _ _ _ us hl=>by obtain ⟨_,rfl⟩:=ln1 hl;rfl) zmL rfl rfl (by decide) (fun f cdv A outer s H E hr=>
   (zaf (zba (zai c_check_net hr (by decide) rfl (zaD rfl rfl rfl rfl) (zac (zaa (pv 0)) zah)))
   (zaf (zba (zai c_check_taut hr (by decide) rfl (zaD rfl rfl rfl rfl) (zac (zaa (pv 0)) zah)))
   (zak (zaI zag (zfE (N':=["one","net"]) (js:=[none,some 0]) (zaz (zaa (pv 0)) vri (fun _ _=>rfl)) rfl T.n_range rfl (by kernel_rfl) (by kernel_rfl) rfl (by decide) (fun _ _ _=>⟨(zap (zao (i:=0) (show List.Nodup [("one":Str),("net":Str)] by decide +kernel) rfl (Or.inl rfl)) (by decide)),zcD,(zai c_lengths_from hr (by decide) rfl zb0 (zac (zaa (pv 1)) (zac (zaa (pv 0)) zah)))⟩)))))))
theorem zf3 (T:Tx K mg):VDef P w K mg base "check_road" ["net","number"] 1 [false,false] zbK:=by
 exact zaZ (S:=zcO) (n:=2) T.d_check_road (fun _ _ _ _ _ _ us hl=>by obtain ⟨_,_,rfl⟩:=ln2 hl;rfl) zhJ rfl rfl (by decide) (fun f cdv A outer s H E hr=>
   (zak (zcj (zeV (zge zhr zmP vri (zaa (pv 1)) (zch zfh rfl T.n_len PySem.boot_len (zac (zaz (zaa (pv 0)) vri (fun _ _=>rfl)) zah)))) (zak zfW) za1)))
theorem zfC (T:Tx K mg):VDef P w K mg base "least_in" ["net","one","other"] 4 [false,false,false] zaF:=by
 have c_places_reached:=zek (P:=P) (w:=w) (base:=base) T;have c_lower_from:=zf2 (P:=P) (w:=w) (base:=base) T;have c_way_back:=zg7 (P:=P) (w:=w) (base:=base) T;exact zaZ (S:=zb6) (n:=6) T.d_least_in (fun _ _ _ _ _ _ us hl=>by obtain ⟨_,_,_,rfl⟩:=ln3 hl;rfl) sc_least_in rfl rfl (by decide) (fun f cdv A outer s H E hr=>
   (zaf (zaC (i:=3) zag sc_least_in.nd rfl (Or.inl rfl) (by decide) (zai c_places_reached hr (by decide) rfl (zaD rfl rfl rfl rfl) (zac (zaa (pv 0)) (zac (zaa (pv 1)) zah))))
   (zaf (zcj (zbh (zhG hr.units65) (zaa (pv 2)) (zaa (pv 3)) (by with_unfolding_all rfl)) (zak (zaI zav (zci zcq (zac (zaw zda fun _ _=>.str _) (zac (zaa (pv 3)) zah))))) za1)
   (zaf (zdI zag (zai c_lower_from hr (by decide) rfl (zaD rfl rfl rfl rfl) (zac (zaa (pv 0)) (zac (zaa (pv 1)) zah))) (zcz rfl (zat (zap (zao (i:=4) sc_least_in.nd rfl (Or.inl rfl)) (by decide)) (zat (zap (zao (i:=5) sc_least_in.nd rfl (Or.inl rfl)) (by decide)) zby)) 2 (zaj (zaj (fun _ _ _=>zaV)))))
   (zaf (zcj (zbh (zfk hr.units) (zaa (pv 1)) (zaa (pv 2)) (za9 _)) (zak (zaI zav (zci zcq (zac (zaw zda fun _ _=>.str _) (zac (zcn zcq zah) (zac (zaa (pv 4)) zah)))))) za1)
   (zak (zaI zav (zci zcq (zac (zaw zda fun _ _=>.str _) (zac (zai c_way_back hr (by decide) rfl (zaD rfl rfl rfl rfl) (zac (zaa (pv 0)) (zac (zaa (pv 5)) (zac (zaa (pv 1)) (zac (zaa (pv 2)) zah))))) (zac (zaa (pv 4)) zah)))))))))))
theorem zeM (T:Tx K mg):VDef P w K mg base "way_length" ["net","way"] 1 [false,false] zbc:=by
 exact zaZ (S:=zcT) (n:=3) T.d_way_length (fun _ _ _ _ _ _ us hl=>by obtain ⟨_,_,rfl⟩:=ln2 hl;rfl) sc_way_length rfl rfl (by decide) (fun f cdv A outer s H E hr=>
   (zaf (zaC (i:=2) zag sc_way_length.nd rfl (Or.inr rfl) (by decide) (zaz (zaa (pv 0)) vri (fun _ _=>rfl)))
   (zak (zaI zag (zch (znF rfl) rfl T.n_sum PyProof.Rows.boot_sum (zac (ziB true (N':=["number","roads"]) (js:=[none,some 2]) (zaa (pv 1)) rfl (by kernel_rfl) (by kernel_rfl) rfl (by decide) (fun _ _ _=>⟨(zap (zao (i:=0) (show List.Nodup [("number":Str),("roads":Str)] by decide +kernel) rfl (Or.inl rfl)) (by decide)),zcD,(zaz (zaz (zaa (pv 1)) (zaa (pv 0)) (fun _ _=>rfl)) vri (fun _ _=>rfl))⟩)) zah))))))
theorem znC (T:Tx K mg):VDef P w K mg base "fall" ["net","number"] 5 [false,false] zbe:=by
 have c_check_net:=zdE (P:=P) (w:=w) (base:=base) T;have c_check_road:=zf3 (P:=P) (w:=w) (base:=base) T;have c_check_taut:=zdP (P:=P) (w:=w) (base:=base) T;have c_least_in:=zfC (P:=P) (w:=w) (base:=base) T;have c_way_length:=zeM (P:=P) (w:=w) (base:=base) T;exact zaZ (S:=ze8) (n:=7) T.d_fall (fun _ _ _ _ _ _ us hl=>by obtain ⟨_,_,rfl⟩:=ln2 hl;rfl) sc_fall rfl rfl (by decide) (fun f cdv A outer s H E hr=>
   (zaf (zba (zai c_check_net hr (by decide) rfl (zaD rfl rfl rfl rfl) (zac (zaa (pv 0)) zah)))
   (zaf (zba (zai c_check_road hr (by decide) rfl (zaD rfl rfl rfl rfl) (zac (zaa (pv 0)) (zac (zaa (pv 1)) zah))))
   (zaf (zba (zai c_check_taut hr (by decide) rfl (zaD rfl rfl rfl rfl) (zac (zaa (pv 0)) zah)))
   (zaf (zdI zag (zaz (zaz (zaa (pv 0)) vri (fun _ _=>rfl)) (zaa (pv 1)) (fun _ _=>rfl)) (zcz rfl (zat (zap (zao (i:=2) sc_fall.nd rfl (Or.inl rfl)) (by decide)) (zat (zap (zao (i:=3) sc_fall.nd rfl (Or.inl rfl)) (by decide)) (zat (zap (zao (i:=4) sc_fall.nd rfl (Or.inl rfl)) (by decide)) zby))) 3 (zaj (zaj (zaj (fun _ _ _=>zaV))))))
   (zaf (zaC (i:=5) zag sc_fall.nd rfl (Or.inl rfl) (by decide) (zai c_least_in hr (by decide) rfl (zaD rfl rfl rfl rfl) (zac (zaa (pv 0)) (zac (zaa (pv 3)) (zac (zaa (pv 2)) zah)))))
   (zaf (zcj (zbh (zfk hr.units) (zaz (zaa (pv 5)) vri (fun _ _=>rfl)) (zaw zda fun _ _=>.str _) (za9 _)) (zak (zaI zav (zci ziD (zac (zaw zda fun _ _=>.str _) (zac (zaz (zaa (pv 5)) vri (fun _ _=>rfl)) zah))))) za1)
   (zaf (zaC (i:=6) zag sc_fall.nd rfl (Or.inl rfl) (by decide) (zaR zaY (zcn zaO (zac (zaa (pv 1)) zah)) (zaz (zaa (pv 5)) vri (fun _ _=>rfl))))
   (zak (zaI zav (zci ziD (zac (zaw zda fun _ _=>.str _) (zac (zai c_way_length hr (by decide) rfl (zaD rfl rfl rfl rfl) (zac (zaa (pv 0)) (zac (zaa (pv 6)) zah))) (zac (zaa (pv 6)) (zac (zaz (zaa (pv 5)) vri (fun _ _=>rfl)) zah)))))))))))))))
theorem zij (T:Tx K mg):VDef P w K mg base "_law_falls" ["_law_net_here","_law_count"] 6 [false,false] za8:=by
 have c_fall:=znC (P:=P) (w:=w) (base:=base) T;exact zaZ (S:=zel) (n:=5) T.d__law_falls (fun _ _ _ _ _ _ us hl=>by obtain ⟨_,_,rfl⟩:=ln2 hl;rfl) sc__law_falls rfl rfl (by decide) (fun f cdv A outer s H E hr=>
   (zaf (zaC (i:=2) zag sc__law_falls.nd rfl (Or.inl rfl) (by decide) (zcn zaO zah))
   (zaf (zeS PassesOwn.leaving rfl rfl T.n_range (zch zfh rfl T.n_len PySem.boot_len (zac (zaz (zaa (pv 0)) vri (fun _ _=>rfl)) zah)) (zap (zao (i:=3) sc__law_falls.nd rfl (Or.inl rfl)) (by decide))
   (zaf (zaC (i:=4) zag sc__law_falls.nd rfl (Or.inl rfl) (by decide) (zai c_fall hr (by decide) rfl (zaD rfl rfl rfl rfl) (zac (zaa (pv 0)) (zac (zaa (pv 3)) zah))))
   (zak (zcj (zbh (zfk hr.units) (zaz (zaa (pv 4)) vri (fun _ _=>rfl)) (zaw zda fun _ _=>.str _) (za9 _)) (zak (zba (zed (zaa (pv 2)) (zci zaO (zac (zaw zda fun _ _=>.str _) (zac (ziB true (N':=["_law_place","_law_count"]) (js:=[none,some 1]) (zaz (zaa (pv 4)) vri (fun _ _=>rfl)) rfl (by kernel_rfl) (by kernel_rfl) rfl (by decide) (fun _ _ _=>⟨(zap (zao (i:=0) (show List.Nodup [("_law_place":Str),("_law_count":Str)] by decide +kernel) rfl (Or.inl rfl)) (by decide)),zcD,(zaR zaY (zaa (pv 0)) (zaa (pv 1)))⟩)) zah))) fun h h'=>zhs PySem.F.plainAttrs_list PySem.F.slot_list_append PySem.F.type_list_append zcI h (zcL h' zdG)))) (zak (zba (zed (zaa (pv 2)) (zci zaO (zac (zaw zda fun _ _=>.str _) (zac (zaz (zaa (pv 4)) vri (fun _ _=>rfl)) zah))) fun h h'=>zhs PySem.F.plainAttrs_list PySem.F.slot_list_append PySem.F.type_list_append zcI h (zcL h' zdG))))))))
   (zak (zaI zav (zaa (pv 2)))))))
theorem zhi (T:Tx K mg):VDef P w K mg base "_law_beside" ["_law_one","_law_other"] 7 [false,false] zaU:=by
 have c_heights:=zl1 (P:=P) (w:=w) (base:=base) T;have c__law_on:=ziv (P:=P) (w:=w) (base:=base) T;have c_table:=zhn (P:=P) (w:=w) (base:=base) T;have c__law_falls:=zij (P:=P) (w:=w) (base:=base) T;exact zaZ (S:=zd3) (n:=5) T.d__law_beside (fun _ _ _ _ _ _ us hl=>by obtain ⟨_,_,rfl⟩:=ln2 hl;rfl) sc__law_beside rfl rfl (by decide) (fun f cdv A outer s H E hr=>
   (zaf (zaC (i:=2) zag sc__law_beside.nd rfl (Or.inr rfl) (by decide) (zaz (zaa (pv 0)) vri (fun _ _=>rfl)))
   (zaf (zaC (i:=3) zag sc__law_beside.nd rfl (Or.inl rfl) (by decide) (zci zaO (zac (zaR zaY (zaa (pv 2)) (zaz (zaa (pv 1)) vri (fun _ _=>rfl))) (zac (zaR zaY (zaz (zaa (pv 0)) vri (fun _ _=>rfl)) (zhh (zai c__law_on hr (by decide) rfl (zaD rfl rfl rfl rfl) (zac (zaa (pv 1)) (zac (zaa (pv 2)) zah))))) zah))))
   (zaf (zcj (zbh (zi4 hr.units) (zai c_heights hr (by decide) rfl (zaD rfl rfl rfl rfl) (zac (zaa (pv 3)) zah)) (zci zaO (zac (zaw zda fun _ _=>.str _) (zac (zaR zaY (zaz (zai c_heights hr (by decide) rfl (zaD rfl rfl rfl rfl) (zac (zaa (pv 0)) zah)) vri (fun _ _=>rfl)) (zaz (zai c_heights hr (by decide) rfl (zaD rfl rfl rfl rfl) (zac (zaa (pv 1)) zah)) vri (fun _ _=>rfl))) zah))) (za9 _)) (zak (zaI zav vrb)) za1)
   (zaf (zpm false (N':=["_law_row","_law_other"]) (js:=[none,some 1]) (i:=4) sc__law_beside.nd rfl (Or.inl rfl) (by decide) (zai c_table hr (by decide) rfl (zaD rfl rfl rfl rfl) (zac (zaa (pv 0)) zah)) rfl (by kernel_rfl) (by kernel_rfl) rfl (by decide) (fun _ _ _=>⟨(zap (zao (i:=0) (show List.Nodup [("_law_row":Str),("_law_other":Str)] by decide +kernel) rfl (Or.inl rfl)) (by decide)),zcD,(zaR zaY (zaa (pv 0)) (zhh (zfE (N':=["_law_k"]) (js:=[none]) (zaz (zaa (pv 1)) vri (fun _ _=>rfl)) rfl T.n_range rfl (by kernel_rfl) (by kernel_rfl) rfl (by decide) (fun _ _ _=>⟨(zap (zao (i:=0) (show List.Nodup [("_law_k":Str)] by decide +kernel) rfl (Or.inl rfl)) (by decide)),zcD,(zaw zcB fun _ _=>.non)⟩))))⟩))
   (zaf (zaC (i:=4) zag sc__law_beside.nd rfl (Or.inl rfl) (by decide) (zaR zaY (zq1 (zaa (pv 4))) (zhh (ziB false (N':=["_law_row","_law_count"]) (js:=[none,some 2]) (zai c_table hr (by decide) rfl (zaD rfl rfl rfl rfl) (zac (zaa (pv 1)) zah)) rfl (by kernel_rfl) (by kernel_rfl) rfl (by decide) (fun _ _ _=>⟨(zap (zao (i:=0) (show List.Nodup [("_law_row":Str),("_law_count":Str)] by decide +kernel) rfl (Or.inl rfl)) (by decide)),zcD,(zaR zaY (zhh (zfE (N':=["_law_k"]) (js:=[none]) (zaa (pv 1)) rfl T.n_range rfl (by kernel_rfl) (by kernel_rfl) rfl (by decide) (fun _ _ _=>⟨(zap (zao (i:=0) (show List.Nodup [("_law_k":Str)] by decide +kernel) rfl (Or.inl rfl)) (by decide)),zcD,(zaw zcB fun _ _=>.non)⟩))) (zaa (pv 0)))⟩)))))
   (zak (zaI zag (zh5 (zfZ (zfk hr.units) (zai c_table hr (by decide) rfl (zaD rfl rfl rfl rfl) (zac (zaa (pv 3)) zah)) (zaa (pv 4)) (za9 _)) (zkM (zfZ (zfk hr.units) (zai c__law_falls hr (by decide) rfl (zaD rfl rfl rfl rfl) (zac (zaa (pv 3)) (zac vri zah))) (zaR zaY (zhh (zai c__law_falls hr (by decide) rfl (zaD rfl rfl rfl rfl) (zac (zaa (pv 0)) (zac vri zah)))) (zhh (zai c__law_falls hr (by decide) rfl (zaD rfl rfl rfl rfl) (zac (zaa (pv 1)) (zac (zaa (pv 2)) zah))))) (za9 _))))))))))))
theorem zfs (T:Tx K mg):VDef P w K mg base "check_place" ["net","number"] 2 [false,false] zbi:=by
 have c_is_place:=zhd (P:=P) (w:=w) (base:=base) T;exact zaZ (S:=zcA) (n:=2) T.d_check_place (fun _ _ _ _ _ _ us hl=>by obtain ⟨_,_,rfl⟩:=ln2 hl;rfl) zgU rfl rfl (by decide) (fun f cdv A outer s H E hr=>
   (zak (zcj (zeV (zg2 (zai c_is_place hr (by decide) rfl (zaD rfl rfl rfl rfl) (zac (zaz (zaa (pv 0)) vri (fun _ _=>rfl)) (zac (zaa (pv 1)) zah))) (fun _=>rfl))) (zak zfW) za1)))
theorem zcs (T:Tx K mg):VDef P w K mg base "check_question" ["net","one","other"] 4 [false,false,false] zaS:=by
 have c_check_net:=zdE (P:=P) (w:=w) (base:=base) T;have c_check_place:=zfs (P:=P) (w:=w) (base:=base) T;exact zaZ (S:=zb7) (n:=3) T.d_check_question (fun _ _ _ _ _ _ us hl=>by obtain ⟨_,_,_,rfl⟩:=ln3 hl;rfl) zfB rfl rfl (by decide) (fun f cdv A outer s H E hr=>
   (zaf (zba (zai c_check_net hr (by decide) rfl (zaD rfl rfl rfl rfl) (zac (zaa (pv 0)) zah)))
   (zaf (zba (zai c_check_place hr (by decide) rfl (zaD rfl rfl rfl rfl) (zac (zaa (pv 0)) (zac (zaa (pv 1)) zah))))
   (zak (zba (zai c_check_place hr (by decide) rfl (zaD rfl rfl rfl rfl) (zac (zaa (pv 0)) (zac (zaa (pv 2)) zah))))))))
theorem zet (T:Tx K mg):VDef P w K mg base "check_road_question" ["net","one","other","number"] 5 [false,false,false,false] zaW:=by
 have c_check_question:=zcs (P:=P) (w:=w) (base:=base) T;have c_check_road:=zf3 (P:=P) (w:=w) (base:=base) T;have c_check_taut:=zdP (P:=P) (w:=w) (base:=base) T;exact zaZ (S:=zbx) (n:=4) T.d_check_road_question (fun _ _ _ _ _ _ us hl=>by obtain ⟨_,_,_,_,rfl⟩:=ln4 hl;rfl) zep rfl rfl (by decide) (fun f cdv A outer s H E hr=>
   (zaf (zba (zai c_check_question hr (by decide) rfl (zaD rfl rfl rfl rfl) (zac (zaa (pv 0)) (zac (zaa (pv 1)) (zac (zaa (pv 2)) zah)))))
   (zaf (zba (zai c_check_road hr (by decide) rfl (zaD rfl rfl rfl rfl) (zac (zaa (pv 0)) (zac (zaa (pv 3)) zah))))
   (zak (zba (zai c_check_taut hr (by decide) rfl (zaD rfl rfl rfl rfl) (zac (zaa (pv 0)) zah)))))))
theorem v_by (T:Tx K mg):VDef P w K mg base "by" ["net","one","other","number"] 6 [false,false,false,false] zcJ:=by
 have c_check_road_question:=zet (P:=P) (w:=w) (base:=base) T;have c_least_in:=zfC (P:=P) (w:=w) (base:=base) T;have c_way_length:=zeM (P:=P) (w:=w) (base:=base) T;exact zaZ (S:=zfi) (n:=10) T.d_by (fun _ _ _ _ _ _ us hl=>by obtain ⟨_,_,_,_,rfl⟩:=ln4 hl;rfl) sc_by rfl rfl (by decide) (fun f cdv A outer s H E hr=>
   (zaf (zba (zai c_check_road_question hr (by decide) rfl (zaD rfl rfl rfl rfl) (zac (zaa (pv 0)) (zac (zaa (pv 1)) (zac (zaa (pv 2)) (zac (zaa (pv 3)) zah))))))
   (zaf (zdI zag (zaz (zaz (zaa (pv 0)) vri (fun _ _=>rfl)) (zaa (pv 3)) (fun _ _=>rfl)) (zcz rfl (zat (zap (zao (i:=4) sc_by.nd rfl (Or.inl rfl)) (by decide)) (zat (zap (zao (i:=5) sc_by.nd rfl (Or.inl rfl)) (by decide)) (zat (zap (zao (i:=6) sc_by.nd rfl (Or.inl rfl)) (by decide)) zby))) 3 (zaj (zaj (zaj (fun _ _ _=>zaV))))))
   (zaf (zaC (i:=7) zag sc_by.nd rfl (Or.inl rfl) (by decide) (zai c_least_in hr (by decide) rfl (zaD rfl rfl rfl rfl) (zac (zaa (pv 0)) (zac (zaa (pv 1)) (zac (zaa (pv 4)) zah)))))
   (zaf (zaC (i:=8) zag sc_by.nd rfl (Or.inl rfl) (by decide) (zai c_least_in hr (by decide) rfl (zaD rfl rfl rfl rfl) (zac (zaa (pv 0)) (zac (zaa (pv 5)) (zac (zaa (pv 2)) zah)))))
   (zaf (zcj (vt_w (ziU (zbh (zfk hr.units) (zaz (zaa (pv 7)) vri (fun _ _=>rfl)) (zaw zda fun _ _=>.str _) (za9 _)) (zgZ (zbh (zfk hr.units) (zaz (zaa (pv 8)) vri (fun _ _=>rfl)) (zaw zda fun _ _=>.str _) (za9 _))))) (zak (zaI zav (zaw zcB fun _ _=>.non))) za1)
   (zaf (zaC (i:=9) zag sc_by.nd rfl (Or.inl rfl) (by decide) (zaR zaY (zaR zaY (zaz (zaa (pv 7)) vri (fun _ _=>rfl)) (zcn zaO (zac (zaa (pv 3)) zah))) (zaz (zaa (pv 8)) vri (fun _ _=>rfl))))
   (zak (zaI zav (zci zcq (zac (zai c_way_length hr (by decide) rfl (zaD rfl rfl rfl rfl) (zac (zaa (pv 0)) (zac (zaa (pv 9)) zah))) (zac (zaa (pv 9)) zah))))))))))))
theorem zom (T:Tx K mg):VDef P w K mg base "least" ["net","one","other"] 5 [false,false,false] za5:=by
 have c_check_question:=zcs (P:=P) (w:=w) (base:=base) T;have c_check_taut:=zdP (P:=P) (w:=w) (base:=base) T;have c_least_in:=zfC (P:=P) (w:=w) (base:=base) T;exact zaZ (S:=zeL) (n:=3) T.d_least (fun _ _ _ _ _ _ us hl=>by obtain ⟨_,_,_,rfl⟩:=ln3 hl;rfl) zmC rfl rfl (by decide) (fun f cdv A outer s H E hr=>
   (zaf (zba (zai c_check_question hr (by decide) rfl (zaD rfl rfl rfl rfl) (zac (zaa (pv 0)) (zac (zaa (pv 1)) (zac (zaa (pv 2)) zah)))))
   (zaf (zba (zai c_check_taut hr (by decide) rfl (zaD rfl rfl rfl rfl) (zac (zaa (pv 0)) zah)))
   (zak (zaI zav (zai c_least_in hr (by decide) rfl (zaD rfl rfl rfl rfl) (zac (zaa (pv 0)) (zac (zaa (pv 1)) (zac (zaa (pv 2)) zah)))))))))
theorem zg9 (T:Tx K mg):VDef P w K mg base "together" ["lengths"] 1 [false] zb1:=by
 exact zaZ (S:=zdT) (n:=1) T.d_together (fun _ _ _ _ _ _ us hl=>by obtain ⟨_,rfl⟩:=ln1 hl;rfl) zjp rfl rfl (by decide) (fun f cdv A outer s H E hr=>
   (zaf (zcj (zbh (zrx hr.units65) (zaw zcB fun _ _=>.non) (zaa (pv 0)) (by with_unfolding_all rfl)) (zak (zaI zav (zaw zcB fun _ _=>.non))) za1)
   (zak (zaI zav (zch (znF rfl) rfl T.n_sum PyProof.Rows.boot_sum (zac (zaa (pv 0)) zah))))))
theorem zn3 (T:Tx K mg):VDef P w K mg base "tight" ["net","one","other"] 6 [false,false,false] zdO:=by
 have c_check_question:=zcs (P:=P) (w:=w) (base:=base) T;have c_table:=zhn (P:=P) (w:=w) (base:=base) T;have c_together:=zg9 (P:=P) (w:=w) (base:=base) T;exact zaZ (S:=zdK) (n:=10) T.d_tight (fun _ _ _ _ _ _ us hl=>by obtain ⟨_,_,_,rfl⟩:=ln3 hl;rfl) sc_tight rfl rfl (by decide) (fun f cdv A outer s H E hr=>
   (zaf (zba (zai c_check_question hr (by decide) rfl (zaD rfl rfl rfl rfl) (zac (zaa (pv 0)) (zac (zaa (pv 1)) (zac (zaa (pv 2)) zah)))))
   (zaf (zaC (i:=3) zag sc_tight.nd rfl (Or.inl rfl) (by decide) (zai c_table hr (by decide) rfl (zaD rfl rfl rfl rfl) (zac (zaa (pv 0)) zah)))
   (zaf (zaC (i:=4) zag sc_tight.nd rfl (Or.inl rfl) (by decide) (zaz (zaz (zaa (pv 3)) (zaa (pv 1)) (fun _ _=>rfl)) (zaa (pv 2)) (fun _ _=>rfl)))
   (zaf (zcj (zbh zf1 (zaa (pv 4)) (zaw zcB fun _ _=>.non) (za9 _)) (zak (zaI zav (zcn zcq zah))) za1)
   (zaf (zaC (i:=5) zag sc_tight.nd rfl (Or.inl rfl) (by decide) (zcn zaO zah))
   (zaf (zju PassesOwn.leaving rfl rfl T.n_enumerate (zaz (zaa (pv 0)) vri (fun _ _=>rfl)) (zcz rfl (zat (zap (zao (i:=6) sc_tight.nd rfl (Or.inl rfl)) (by decide)) (zat (zcz rfl (zat (zap (zao (i:=7) sc_tight.nd rfl (Or.inl rfl)) (by decide)) (zat (zap (zao (i:=8) sc_tight.nd rfl (Or.inl rfl)) (by decide)) (zat (zap (zao (i:=9) sc_tight.nd rfl (Or.inl rfl)) (by decide)) zby))) 3 (zaj (zaj (zaj (fun _ _ _=>zaV))))) zby)) 2 (zaj (zaj (fun _ _ _=>zaV))))
   (zak (zcj (zbh (zfk hr.units) (zai c_together hr (by decide) rfl (zaD rfl rfl rfl rfl) (zac (zcn zaO (zac (zaz (zaz (zaa (pv 3)) (zaa (pv 1)) (fun _ _=>rfl)) (zaa (pv 7)) (fun _ _=>rfl)) (zac (zaa (pv 9)) (zac (zaz (zaz (zaa (pv 3)) (zaa (pv 8)) (fun _ _=>rfl)) (zaa (pv 2)) (fun _ _=>rfl)) zah)))) zah)) (zaa (pv 4)) (za9 _)) (zak (zba (zed (zaa (pv 5)) (zaa (pv 6)) fun h h'=>zhs PySem.F.plainAttrs_list PySem.F.slot_list_append PySem.F.type_list_append zcI h (zcL h' zdG)))) za1)))
   (zak (zaI zav (zaa (pv 5)))))))))))
theorem zpP (T:Tx K mg):VDef P w K mg base "shut" ["net","number"] 1 [false,false] zd5:=by
 exact zaZ (S:=zgK) (n:=4) T.d_shut (fun _ _ _ _ _ _ us hl=>by obtain ⟨_,_,rfl⟩:=ln2 hl;rfl) sc_shut rfl rfl (by decide) (fun f cdv A outer s H E hr=>
   (zaf (zdI zag (zaa (pv 0)) (zcz rfl (zat (zap (zao (i:=2) sc_shut.nd rfl (Or.inl rfl)) (by decide)) (zat (zap (zao (i:=3) sc_shut.nd rfl (Or.inl rfl)) (by decide)) zby)) 2 (zaj (zaj (fun _ _ _=>zaV)))))
   (zak (zaI zag (zci zaO (zac (zaa (pv 2)) (zac (zaR zaY (zoY (zaa (pv 3)) zi2 (zje (zaa (pv 1)))) (zoY (zaa (pv 3)) (zje (zaR zaY (zaa (pv 1)) vri)) zi2)) zah)))))))
theorem zl6 (T:Tx K mg):VDef P w K mg base "detours" ["net","one","other"] 7 [false,false,false] zc2:=by
 have c_tight:=zn3 (P:=P) (w:=w) (base:=base) T;have c_lengths_from:=zeW (P:=P) (w:=w) (base:=base) T;have c_shut:=zpP (P:=P) (w:=w) (base:=base) T;exact zaZ (S:=zcX) (n:=8) T.d_detours (fun _ _ _ _ _ _ us hl=>by obtain ⟨_,_,_,rfl⟩:=ln3 hl;rfl) sc_detours rfl rfl (by decide) (fun f cdv A outer s H E hr=>
   (zaf (zaC (i:=3) zag sc_detours.nd rfl (Or.inl rfl) (by decide) (zai c_tight hr (by decide) rfl (zaD rfl rfl rfl rfl) (zac (zaa (pv 0)) (zac (zaa (pv 1)) (zac (zaa (pv 2)) zah)))))
   (zaf (zaC (i:=4) zag sc_detours.nd rfl (Or.inl rfl) (by decide) (zaz (zai c_lengths_from hr (by decide) rfl (zaD rfl rfl rfl rfl) (zac (zaa (pv 0)) (zac (zaa (pv 1)) zah))) (zaa (pv 2)) (fun _ _=>rfl)))
   (zaf (zaC (i:=5) zag sc_detours.nd rfl (Or.inl rfl) (by decide) (zcn zaO zah))
   (zaf (zhu PassesOwn.leaving rfl (zaa (pv 3)) (zap (zao (i:=6) sc_detours.nd rfl (Or.inl rfl)) (by decide))
   (zaf (zaC (i:=7) zag sc_detours.nd rfl (Or.inl rfl) (by decide) (zaz (zai c_lengths_from hr (by decide) rfl (zaD rfl rfl rfl rfl) (zac (zhh (zai c_shut hr (by decide) rfl (zaD rfl rfl rfl rfl) (zac (zaa (pv 0)) (zac (zaa (pv 6)) zah)))) (zac (zaa (pv 1)) zah))) (zaa (pv 2)) (fun _ _=>rfl)))
   (zak (zcj (zbh zf1 (zaa (pv 7)) (zaw zcB fun _ _=>.non) (za9 _)) (zak (zba (zed (zaa (pv 5)) (zci zaO (zac (zaa (pv 6)) (zac (zaw zcB fun _ _=>.non) zah))) fun h h'=>zhs PySem.F.plainAttrs_list PySem.F.slot_list_append PySem.F.type_list_append zcI h (zcL h' zdG)))) (zak (zcj (zbh zlh (zaa (pv 7)) (zaa (pv 4)) (za9 _)) (zak (zba (zed (zaa (pv 5)) (zci zaO (zac (zaa (pv 6)) (zac (zaR zh6 (zaa (pv 7)) (zaa (pv 4))) zah))) fun h h'=>zhs PySem.F.plainAttrs_list PySem.F.slot_list_append PySem.F.type_list_append zcI h (zcL h' zdG)))) za1))))))
   (zak (zaI zav (zaa (pv 5)))))))))
theorem zmu (T:Tx K mg):VDef P w K mg base "needed" ["net","one","other"] 8 [false,false,false] za6:=by
 have c_detours:=zl6 (P:=P) (w:=w) (base:=base) T;exact zaZ (S:=zft) (n:=3) T.d_needed (fun _ _ _ _ _ _ us hl=>by obtain ⟨_,_,_,rfl⟩:=ln3 hl;rfl) zlV rfl rfl (by decide) (fun f cdv A outer s H E hr=>
   (zak (zaI zag (ziB false (N':=["number","more"]) (js:=[none,none]) (zai c_detours hr (by decide) rfl (zaD rfl rfl rfl rfl) (zac (zaa (pv 0)) (zac (zaa (pv 1)) (zac (zaa (pv 2)) zah)))) rfl (by kernel_rfl) (by kernel_rfl) rfl (by decide) (fun _ _ _=>⟨(zcz rfl (zat (zap (zao (i:=0) (show List.Nodup [("number":Str),("more":Str)] by decide +kernel) rfl (Or.inl rfl)) (by decide)) (zat (zap (zao (i:=1) (show List.Nodup [("number":Str),("more":Str)] by decide +kernel) rfl (Or.inl rfl)) (by decide)) zby)) 2 (zaj (zaj (fun _ _ _=>zaV)))),zcD,(zaa (pv 0))⟩)))))
theorem zf8 (T:Tx K mg):VDef P w K mg base "length_through" ["rows","stops"] 2 [false,false] zb8:=by
 have c_together:=zg9 (P:=P) (w:=w) (base:=base) T;exact zaZ (S:=zc5) (n:=2) T.d_length_through (fun _ _ _ _ _ _ us hl=>by obtain ⟨_,_,rfl⟩:=ln2 hl;rfl) zfJ rfl rfl (by decide) (fun f cdv A outer s H E hr=>
   (zak (zaI zag (zai c_together hr (by decide) rfl (zaD rfl rfl rfl rfl) (zac (zqC (N':=["one","other","rows"]) (js:=[none,none,some 0]) (zac (zaa (pv 1)) (zac (zhh (zoY (zaa (pv 1)) (zje vri) zi2)) zah)) rfl T.n_zip rfl (by kernel_rfl) (by kernel_rfl) rfl (by decide) (fun _ _ _=>⟨(zcz rfl (zat (zap (zao (i:=0) (show List.Nodup [("one":Str),("other":Str),("rows":Str)] by decide +kernel) rfl (Or.inl rfl)) (by decide)) (zat (zap (zao (i:=1) (show List.Nodup [("one":Str),("other":Str),("rows":Str)] by decide +kernel) rfl (Or.inl rfl)) (by decide)) zby)) 2 (zaj (zaj (fun _ _ _=>zaV)))),zcD,(zaz (zaz (zaa (pv 2)) (zaa (pv 0)) (fun _ _=>rfl)) (zaa (pv 1)) (fun _ _=>rfl))⟩)) zah)))))
theorem zi7 (T:Tx K mg):VDef P w K mg base "table_for" ["net","stops"] 6 [false,false] zde:=by
 have c_check_net:=zdE (P:=P) (w:=w) (base:=base) T;have c_table:=zhn (P:=P) (w:=w) (base:=base) T;have c_check_place:=zfs (P:=P) (w:=w) (base:=base) T;exact zaZ (S:=zem) (n:=3) T.d_table_for (fun _ _ _ _ _ _ us hl=>by obtain ⟨_,_,rfl⟩:=ln2 hl;rfl) sc_table_for rfl rfl (by decide) (fun f cdv A outer s H E hr=>
   (zaf (zba (zai c_check_net hr (by decide) rfl (zaD rfl rfl rfl rfl) (zac (zaa (pv 0)) zah)))
   (zaf (zhu PassesOwn.leaving rfl (zaa (pv 1)) (zap (zao (i:=2) sc_table_for.nd rfl (Or.inl rfl)) (by decide))
   (zak (zba (zai c_check_place hr (by decide) rfl (zaD rfl rfl rfl rfl) (zac (zaa (pv 0)) (zac (zaa (pv 2)) zah))))))
   (zaf (zcj (zeV (zge zhr zhr vri (zch zfh rfl T.n_len PySem.boot_len (zac (zaa (pv 1)) zah)) (zaw (zgW rfl T.g_MOST_STOPS) fun _ _=>.int _))) (zak zfW) za1)
   (zak (zaI zav (zai c_table hr (by decide) rfl (zaD rfl rfl rfl rfl) (zac (zaa (pv 0)) zah))))))))
theorem zlp (T:Tx K mg):VDef P w K mg base "through" ["net","stops"] 7 [false,false] zco:=by
 have c_length_through:=zf8 (P:=P) (w:=w) (base:=base) T;have c_table_for:=zi7 (P:=P) (w:=w) (base:=base) T;exact zaZ (S:=zeU) (n:=2) T.d_through (fun _ _ _ _ _ _ us hl=>by obtain ⟨_,_,rfl⟩:=ln2 hl;rfl) zkv rfl rfl (by decide) (fun f cdv A outer s H E hr=>
   (zak (zaI zag (zai c_length_through hr (by decide) rfl (zaD rfl rfl rfl rfl) (zac (zhh (zai c_table_for hr (by decide) rfl (zaD rfl rfl rfl rfl) (zac (zaa (pv 0)) (zac (zaa (pv 1)) zah)))) (zac (zaa (pv 1)) zah))))))
theorem zoF (T:Tx K mg):VDef P w K mg base "leads" ["net","one","other","way"] 1 [false,false,false,false] zdL:=by
 exact zaZ (S:=zeI) (n:=7) T.d_leads (fun _ _ _ _ _ _ us hl=>by obtain ⟨_,_,_,_,rfl⟩:=ln4 hl;rfl) sc_leads rfl rfl (by decide) (fun f cdv A outer s H E hr=>
   (zaf (zaC (i:=4) zag sc_leads.nd rfl (Or.inl rfl) (by decide) (zaz (zaa (pv 0)) vri (fun _ _=>rfl)))
   (zaf (zaC (i:=5) zag sc_leads.nd rfl (Or.inl rfl) (by decide) (zaa (pv 1)))
   (zaf (zhu PassesOwn.leaving rfl (zaa (pv 3)) (zap (zao (i:=6) sc_leads.nd rfl (Or.inl rfl)) (by decide))
   (zaf (zcj (vt_w (ziU (zeV (zge zhr zmP vri (zaa (pv 6)) (zch zfh rfl T.n_len PySem.boot_len (zac (zaa (pv 4)) zah)))) (zgZ (zbh (zi4 hr.units) (zaz (zaz (zaa (pv 4)) (zaa (pv 6)) (fun _ _=>rfl)) vri (fun _ _=>rfl)) (zaa (pv 5)) (za9 _))))) (zak (zaI zav vrb)) za1)
   (zak (zaC (i:=5) zag sc_leads.nd rfl (Or.inl rfl) (by decide) (zaz (zaz (zaa (pv 4)) (zaa (pv 6)) (fun _ _=>rfl)) vri (fun _ _=>rfl))))))
   (zak (zaI zav (zfZ (zfk hr.units) (zaa (pv 5)) (zaa (pv 2)) (za9 _))))))))
theorem zjf (T:Tx K mg):VDef P w K mg base "length_of" ["net","one","other","way"] 5 [false,false,false,false] zbA:=by
 have c_check_question:=zcs (P:=P) (w:=w) (base:=base) T;have c_way_length:=zeM (P:=P) (w:=w) (base:=base) T;have c_leads:=zoF (P:=P) (w:=w) (base:=base) T;exact zaZ (S:=zen) (n:=4) T.d_length_of (fun _ _ _ _ _ _ us hl=>by obtain ⟨_,_,_,_,rfl⟩:=ln4 hl;rfl) ziu rfl rfl (by decide) (fun f cdv A outer s H E hr=>
   (zaf (zba (zai c_check_question hr (by decide) rfl (zaD rfl rfl rfl rfl) (zac (zaa (pv 0)) (zac (zaa (pv 1)) (zac (zaa (pv 2)) zah)))))
   (zaf (zcj (zeV (zg2 (zai c_leads hr (by decide) rfl (zaD rfl rfl rfl rfl) (zac (zaa (pv 0)) (zac (zaa (pv 1)) (zac (zaa (pv 2)) (zac (zaa (pv 3)) zah))))) (fun _=>rfl))) (zak zfW) za1)
   (zak (zaI zav (zai c_way_length hr (by decide) rfl (zaD rfl rfl rfl rfl) (zac (zaa (pv 0)) (zac (zaa (pv 3)) zah))))))))
theorem zgR (T:Tx K mg):VDef P w K mg base "_law_crossed" ["_law_purse_here","_law_one","_law_other"] 9 [true,false,false] zbB:=by
 have c_fall:=znC (P:=P) (w:=w) (base:=base) T;have c_by:=v_by (P:=P) (w:=w) (base:=base) T;have c_least:=zom (P:=P) (w:=w) (base:=base) T;have c__law_draw:=zfc (P:=P) (w:=w) (base:=base) T;have c__law_number:=zfx (P:=P) (w:=w) (base:=base) T;have c_needed:=zmu (P:=P) (w:=w) (base:=base) T;have c_through:=zlp (P:=P) (w:=w) (base:=base) T;have c_table:=zhn (P:=P) (w:=w) (base:=base) T;have c_length_of:=zjf (P:=P) (w:=w) (base:=base) T;have c__law_on:=ziv (P:=P) (w:=w) (base:=base) T;exact zaZ (S:=zcE) (n:=17) T.d__law_crossed (fun _ _ _ _ _ _ us hl=>by obtain ⟨_,_,_,rfl⟩:=ln3 hl;rfl) sc__law_crossed rfl rfl (by decide) (fun f cdv A outer s H E hr=>
   (zaf (zaC (i:=3) zag sc__law_crossed.nd rfl (Or.inr rfl) (by decide) (zaz (zaa (pv 1)) vri (fun _ _=>rfl)))
   (zaf (zdI zag (zfE (N':=["_law_k","_law_purse_here","_law_count"]) (js:=[none,some 0,some 3]) vri rfl T.n_range rfl (by kernel_rfl) (by kernel_rfl) rfl (by decide) (fun _ _ _=>⟨(zap (zao (i:=0) (show List.Nodup [("_law_k":Str),("_law_purse_here":Str),("_law_count":Str)] by decide +kernel) rfl (Or.inl rfl)) (by decide)),zcD,(zai c__law_draw hr (by decide) rfl zb0 (zac (zaa (pv 1)) (zac (zaa (pv 2)) zah)))⟩)) (zk3 rfl (zat (zap (zao (i:=4) sc__law_crossed.nd rfl (Or.inl rfl)) (by decide)) (zat (zap (zao (i:=5) sc__law_crossed.nd rfl (Or.inl rfl)) (by decide)) zby)) 2 (zaj (zaj (fun _ _ _=>zaV)))))
   (zaf (zdI zag (zfE (N':=["_law_k","_law_purse_here","_law_other"]) (js:=[none,some 0,some 2]) vri rfl T.n_range rfl (by kernel_rfl) (by kernel_rfl) rfl (by decide) (fun _ _ _=>⟨(zap (zao (i:=0) (show List.Nodup [("_law_k":Str),("_law_purse_here":Str),("_law_other":Str)] by decide +kernel) rfl (Or.inl rfl)) (by decide)),zcD,(zai c__law_draw hr (by decide) rfl zb0 (zac (zaa (pv 1)) (zac (zaz (zaa (pv 2)) vri (fun _ _=>rfl)) zah)))⟩)) (zk3 rfl (zat (zap (zao (i:=6) sc__law_crossed.nd rfl (Or.inl rfl)) (by decide)) (zat (zap (zao (i:=7) sc__law_crossed.nd rfl (Or.inl rfl)) (by decide)) zby)) 2 (zaj (zaj (fun _ _ _=>zaV)))))
   (zaf (zaC (i:=8) zag sc__law_crossed.nd rfl (Or.inl rfl) (by decide) (zci zaO (zac (zaa (pv 5)) (zac (zaR zaY (zaa (pv 3)) (zaa (pv 6))) (zac (zai c__law_number hr (by decide) rfl (zaD rfl rfl rfl rfl) (zac (zaa (pv 0)) (zac (zaR zjw vri vri) zah))) zah)))))
   (zaf (zaC (i:=9) zag sc__law_crossed.nd rfl (Or.inl rfl) (by decide) (zci zaO (zac (zaR zaY (zaa (pv 3)) (zaz (zaa (pv 2)) vri (fun _ _=>rfl))) (zac (zaR zaY (zaR zaY (zaz (zaa (pv 1)) vri (fun _ _=>rfl)) (zai c__law_on hr (by decide) rfl (zaD rfl rfl rfl rfl) (zac (zaa (pv 2)) (zac (zaa (pv 3)) zah)))) (zcn zaO (zac (zaa (pv 8)) zah))) zah))))
   (zaf (zaC (i:=10) zag sc__law_crossed.nd rfl (Or.inl rfl) (by decide) (zaR zh6 (zch zfh rfl T.n_len PySem.boot_len (zac (zaz (zaa (pv 9)) vri (fun _ _=>rfl)) zah)) vri))
   (zaf (zaC (i:=11) zag sc__law_crossed.nd rfl (Or.inl rfl) (by decide) (zaz (zaz (zai c_table hr (by decide) rfl (zaD rfl rfl rfl rfl) (zac (zaa (pv 1)) zah)) (zaa (pv 4)) (fun _ _=>rfl)) (zaa (pv 5)) (fun _ _=>rfl)))
   (zaf (zaC (i:=12) zag sc__law_crossed.nd rfl (Or.inl rfl) (by decide) (zaz (zaz (zai c_table hr (by decide) rfl (zaD rfl rfl rfl rfl) (zac (zaa (pv 2)) zah)) (zaa (pv 6)) (fun _ _=>rfl)) (zaa (pv 7)) (fun _ _=>rfl)))
   (zaf (zaC (i:=13) zag sc__law_crossed.nd rfl (Or.inl rfl) (by decide) (zai c_fall hr (by decide) rfl (zaD rfl rfl rfl rfl) (zac (zaa (pv 9)) (zac (zaa (pv 10)) zah))))
   (zaf (zcj (vt_w (ziU (zbh (zi4 hr.units) (zaz (zaa (pv 13)) vri (fun _ _=>rfl)) (zaw zda fun _ _=>.str _) (za9 _)) (zgZ (zbh (zi4 hr.units) (zaz (zai c_least hr (by decide) rfl (zaD rfl rfl rfl rfl) (zac (zaa (pv 9)) (zac (zaR zaY (zaa (pv 3)) (zaa (pv 7))) (zac (zaa (pv 4)) zah)))) vri (fun _ _=>rfl)) (zaw zda fun _ _=>.str _) (za9 _))))) (zak (zaI zav vrb)) za1)
   (zaf (zaC (i:=14) zag sc__law_crossed.nd rfl (Or.inl rfl) (by decide) (zai c_by hr (by decide) rfl (zaD rfl rfl rfl rfl) (zac (zaa (pv 9)) (zac (zaa (pv 4)) (zac (zaR zaY (zaa (pv 3)) (zaa (pv 7))) (zac (zaa (pv 10)) zah))))))
   (zaf (zaC (i:=15) zag sc__law_crossed.nd rfl (Or.inl rfl) (by decide) (zai c_least hr (by decide) rfl (zaD rfl rfl rfl rfl) (zac (zaa (pv 9)) (zac (zaa (pv 4)) (zac (zaR zaY (zaa (pv 3)) (zaa (pv 7))) zah)))))
   (zaf (zcj (vt_w (ziU (zbh zf1 (zaa (pv 11)) (zaw zcB fun _ _=>.non) (za9 _)) (zgZ (zbh zf1 (zaa (pv 12)) (zaw zcB fun _ _=>.non) (za9 _))))) (zak (zaI zav (zh5 (zfZ zf1 (zaa (pv 14)) (zaw zcB fun _ _=>.non) (za9 _)) (zh5 (zfZ (zfk hr.units) (zaz (zaa (pv 15)) vri (fun _ _=>rfl)) (zaw zda fun _ _=>.str _) (za9 _)) (zkM (zfZ (zfk hr.units) (zai c_needed hr (by decide) rfl (zaD rfl rfl rfl rfl) (zac (zaa (pv 9)) (zac (zaa (pv 4)) (zac (zaR zaY (zaa (pv 3)) (zaa (pv 7))) zah)))) (zcn zcq zah) (za9 _))))))) za1)
   (zaf (zaC (i:=16) zag sc__law_crossed.nd rfl (Or.inl rfl) (by decide) (zaR zaY (zaR zaY (zaa (pv 11)) (zaz (zaa (pv 8)) vri (fun _ _=>rfl))) (zaa (pv 12))))
   (zaf (zcj (vt_w (ziU (zbh zf1 (zaa (pv 14)) (zaw zcB fun _ _=>.non) (za9 _)) (ziU (zbh (zi4 hr.units) (zaz (zaa (pv 14)) vri (fun _ _=>rfl)) (zaa (pv 16)) (za9 _)) (zgZ (zbh (zi4 hr.units) (zai c_length_of hr (by decide) rfl (zaD rfl rfl rfl rfl) (zac (zaa (pv 9)) (zac (zaa (pv 4)) (zac (zaR zaY (zaa (pv 3)) (zaa (pv 7))) (zac (zaz (zaa (pv 15)) vri (fun _ _=>rfl)) zah))))) (zaa (pv 16)) (za9 _)))))) (zak (zaI zav vrb)) za1)
   (zaf (zcj (zbh (zhG hr.units65) (zaa (pv 10)) (zai c_needed hr (by decide) rfl (zaD rfl rfl rfl rfl) (zac (zaa (pv 9)) (zac (zaa (pv 4)) (zac (zaR zaY (zaa (pv 3)) (zaa (pv 7))) zah)))) (by with_unfolding_all rfl)) (zak (zaI zav vrb)) za1)
   (zak (zaI zag (zfZ (zfk hr.units) (zai c_through hr (by decide) rfl (zaD rfl rfl rfl rfl) (zac (zaa (pv 9)) (zac (zcn zaO (zac (zaa (pv 4)) (zac (zaa (pv 5)) (zac (zaR zaY (zaa (pv 3)) (zaa (pv 6))) (zac (zaR zaY (zaa (pv 3)) (zaa (pv 7))) zah))))) zah))) (zaa (pv 16)) (za9 _)))))))))))))))))))))
theorem zpG (T:Tx K mg):zj0 P w K mg base "law" ["_law_script"] 10 (zjB K):=by
 have c__law_purse:=zik (P:=P) (w:=w) (base:=base) T;have c__law_net:=zkj (P:=P) (w:=w) (base:=base) T;have c__law_beside:=zhi (P:=P) (w:=w) (base:=base) T;have c__law_crossed:=zgR (P:=P) (w:=w) (base:=base) T;exact zqa (S:=zfD) (n:=5) T.d_law (fun _ _ _ _ _ _ us hl=>by obtain ⟨_,rfl⟩:=ln1 hl;rfl) sc_law rfl (by decide) (fun f cdv A outer s H E hr=>
   (zaf (zeS PassesOwn.never rfl rfl T.n_range vri (zap (zao (i:=1) sc_law.nd rfl (Or.inl rfl)) (by decide))
   (zaf (zaC (i:=2) zag sc_law.nd rfl (Or.inl rfl) (by decide) (zai c__law_purse hr (by decide) rfl zb0 (zac (zaa (pv 0)) (zac (zaa (pv 1)) zah))))
   (zaf (zaC (i:=3) zag sc_law.nd rfl (Or.inl rfl) (by decide) (zai c__law_net hr (by decide) rfl zb0 (zac (zaa (pv 2)) (zac vri (zac vri zah)))))
   (zaf (zaC (i:=4) zag sc_law.nd rfl (Or.inl rfl) (by decide) (zai c__law_net hr (by decide) rfl zb0 (zac (zaa (pv 2)) (zac vri (zac vri zah)))))
   (zaf (zcj (vt_w (ziU (zeV (zg2 (zai c__law_beside hr (by decide) rfl zb0 (zac (zaa (pv 3)) (zac (zaa (pv 4)) zah))) (fun _=>rfl))) (zgZ (zeV (zg2 (zai c__law_beside hr (by decide) rfl zb0 (zac (zaa (pv 4)) (zac (zaa (pv 3)) zah))) (fun _=>rfl)))))) (zak (zaI zav vrb)) za1)
   (zak (zcj (vt_w (znQ (zbh zlh (zaR zdQ (zaz (zaa (pv 3)) vri (fun _ _=>rfl)) (zaz (zaa (pv 4)) vri (fun _ _=>rfl))) vri (za9 _)) (zlz (zeV (zg2 (zai c__law_crossed hr (by decide) rfl zb0 (zac (zaa (pv 2)) (zac (zaa (pv 3)) (zac (zaa (pv 4)) zah)))) (fun _=>rfl)))))) (zak (zaI zav vrb)) za1)))))))
   (zak (zaI zav vrb)))) zhH
theorem zqt {K:PySem.W.Frag} {h:Heap} {mg:Str->Option Value} (X:K.In h) (G:h.Ns mainGlobals mg) (e:oo PySem.Challenge.pw_tautroads_k43_whole_nets_beside_one_anot K=dd PySem.Challenge.pw_tautroads_k43_whole_nets_beside_one_anot):Tx K mg:=by
 obtain ⟨e1,e⟩:=Prod.mk.inj e;obtain ⟨e2,e⟩:=Prod.mk.inj e;obtain ⟨e3,e4⟩:=Prod.mk.inj e;exact {
  d__law_at:=L2.zaX X G rfl (L2.zaM e1 0 (a:=zgm) rfl)
  d__law_purse:=L2.zaX X G rfl (L2.zaM e1 1 (a:=zeu) rfl)
  d__law_mixed:=L2.zaX X G rfl (L2.zaM e1 2 (a:=zeG) rfl)
  d__law_draw:=L2.zaX X G rfl (L2.zaM e1 3 (a:=ze4) rfl)
  d__law_number:=L2.zaX X G rfl (L2.zaM e1 4 (a:=zd8) rfl)
  d__law_net:=L2.zaX X G rfl (L2.zaM e1 5 (a:=zfO) rfl)
  d_is_place:=L2.zaX X G rfl (L2.zaM e1 6 (a:=zfP) rfl)
  d_is_road:=L2.zaX X G rfl (L2.zaM e1 7 (a:=zgj) rfl)
  d_check_net:=L2.zaX X G rfl (L2.zaM e1 8 (a:=ze5) rfl)
  d_lower_once:=L2.zaX X G rfl (L2.zaM e1 9 (a:=zeH) rfl)
  d_lower:=L2.zaX X G rfl (L2.zaM e1 10 (a:=zjh) rfl)
  d_way_back:=L2.zaX X G rfl (L2.zaM e1 11 (a:=zfL) rfl)
  d_ring_behind:=L2.zaX X G rfl (L2.zaM e1 12 (a:=zef) rfl)
  d_heights:=L2.zaX X G rfl (L2.zaM e1 13 (a:=zgN) rfl)
  d__law_on:=L2.zaX X G rfl (L2.zaM e1 14 (a:=zgv) rfl)
  d_check_taut:=L2.zaX X G rfl (L2.zaM e1 15 (a:=zew) rfl)
  d_lower_from:=L2.zaX X G rfl (L2.zaM e1 16 (a:=zev) rfl)
  d_places_reached:=L2.zaX X G rfl (L2.zaM e1 17 (a:=zdj) rfl)
  d_lengths_from:=L2.zaX X G rfl (L2.zaM e1 18 (a:=zd1) rfl)
  d_table:=L2.zaX X G rfl (L2.zaM e1 19 (a:=ziZ) rfl)
  d_check_road:=L2.zaX X G rfl (L2.zaM e1 20 (a:=zeK) rfl)
  d_least_in:=L2.zaX X G rfl (L2.zaM e1 21 (a:=zfQ) rfl)
  d_way_length:=L2.zaX X G rfl (L2.zaM e1 22 (a:=zes) rfl)
  d_fall:=L2.zaX X G rfl (L2.zaM e1 23 (a:=zl9) rfl)
  d__law_falls:=L2.zaX X G rfl (L2.zaM e1 24 (a:=zeF) rfl)
  d__law_beside:=L2.zaX X G rfl (L2.zaM e1 25 (a:=zd6) rfl)
  d_check_place:=L2.zaX X G rfl (L2.zaM e1 26 (a:=zd7) rfl)
  d_check_question:=L2.zaX X G rfl (L2.zaM e1 27 (a:=zdg) rfl)
  d_check_road_question:=L2.zaX X G rfl (L2.zaM e1 28 (a:=zcb) rfl)
  d_by:=L2.zaX X G rfl (L2.zaM e1 29 (a:=s_by) rfl)
  d_least:=L2.zaX X G rfl (L2.zaM e1 30 (a:=zi9) rfl)
  d_together:=L2.zaX X G rfl (L2.zaM e1 31 (a:=zfK) rfl)
  d_tight:=L2.zaX X G rfl (L2.zaM e1 32 (a:=zi0) rfl)
  d_shut:=L2.zaX X G rfl (L2.zaM e1 33 (a:=zkN) rfl)
  d_detours:=L2.zaX X G rfl (L2.zaM e1 34 (a:=zgs) rfl)
  d_needed:=L2.zaX X G rfl (L2.zaM e1 35 (a:=zhE) rfl)
  d_length_through:=L2.zaX X G rfl (L2.zaM e1 36 (a:=zdk) rfl)
  d_table_for:=L2.zaX X G rfl (L2.zaM e1 37 (a:=zfd) rfl)
  d_through:=L2.zaX X G rfl (L2.zaM e1 38 (a:=zgp) rfl)
  d_leads:=L2.zaX X G rfl (L2.zaM e1 39 (a:=ziV) rfl)
  d_length_of:=L2.zaX X G rfl (L2.zaM e1 40 (a:=zeZ) rfl)
  d__law_crossed:=L2.zaX X G rfl (L2.zaM e1 41 (a:=zdX) rfl)
  d_law:=L2.zaX X G rfl (L2.zaM e1 42 (a:=ziR) rfl)
  n_enumerate:=L2.zfp X G (L2.zaM e2 0 rfl)
  n_int:=L2.zfp X G (L2.zaM e2 1 rfl)
  n_len:=L2.zfp X G (L2.zaM e2 2 rfl)
  n_list:=L2.zfp X G (L2.zaM e2 3 rfl)
  n_max:=L2.zfp X G (L2.zaM e2 4 rfl)
  n_range:=L2.zfp X G (L2.zaM e2 5 rfl)
  n_sorted:=L2.zfp X G (L2.zaM e2 6 rfl)
  n_sum:=L2.zfp X G (L2.zaM e2 7 rfl)
  n_zip:=L2.zfp X G (L2.zaM e2 8 rfl)
  g_FAR:=L2.zgx X G (L2.zgQ e3 0 rfl rfl)
  g_MOST_LENGTH:=L2.zgx X G (L2.zgQ e3 1 rfl rfl)
  g_MOST_PLACES:=L2.zgx X G (L2.zgQ e3 2 rfl rfl)
  g_MOST_ROADS:=L2.zgx X G (L2.zgQ e3 3 rfl rfl)
  g_MOST_STOPS:=L2.zgx X G (L2.zgQ e3 4 rfl rfl)
  }
end My
end
open PySem PySem.W PyProof.Rows
set_option maxRecDepth 100000 in
set_option maxHeartbeats 0 in
theorem PySem.Challenge.cw_tautroads_k43_whole_nets_beside_one_anot_holds : PySem.Challenge.rw_tautroads_k43_whole_nets_beside_one_anot.Holds := by
 w_on;o_law
 refine holds_open (d:=⟨"law",L2.zei My.ziR,L2.zcM My.ziR,L2.zam My.ziR,L2.zp7 My.ziR⟩) (kwd:=[]) (q:=My.QQ PySem.Challenge.pw_tautroads_k43_whole_nets_beside_one_anot) (Xt:=My.Xt PySem.Challenge.pw_tautroads_k43_whole_nets_beside_one_anot) (XP:=XL (My.QQ PySem.Challenge.pw_tautroads_k43_whole_nets_beside_one_anot) My.lv)
  My.left (L2.zgG (My.oo PySem.Challenge.pw_tautroads_k43_whole_nets_beside_one_anot) (My.dd PySem.Challenge.pw_tautroads_k43_whole_nets_beside_one_anot)).of (L2.zgG (My.oo PySem.Challenge.pw_tautroads_k43_whole_nets_beside_one_anot) (My.dd PySem.Challenge.pw_tautroads_k43_whole_nets_beside_one_anot)).keeps (fun s e=>xl_of s (Bool.and_eq_true_iff.mp e).1) XL.keeps (by kernel_rfl) (by kernel_rfl) (by kernel_rfl) (fun s e=>recFacts_of (Bool.and_eq_true_iff.mp e).2) (by kernel_rfl) (by assumption) (by first | k_qdec | decide +kernel) ⟨rfl,rfl,rfl,rfl,rfl,by decide +kernel⟩ ?hw ?hc
 case hw=>w_witness2
 case hc=>
  refine L2.zmR (l:=PySem.Challenge.rw_tautroads_k43_whole_nets_beside_one_anot) (n:=63) (k:=10) (x:="_law_script") (CX:=L2.CX0) (sp:=L2.zjB) rfl (by decide) rfl ⟨rfl,by decide,by decide⟩ ?F ?S ?C
  case F=>
   intro w K mg fa h KX G e hmg
   have T:My.Tx K mg:=My.zqt KX G e
   exact L2.zso T.d_law (fun _ _ _ _ _ _ _=>rfl) (fun base=>My.zpG (base:=base) T) hmg
  case S=>exact fun K H a ns hl hO hS=>L2.zpe hl hO hS
  case C=>exact fun _ _ _ _ z=>z


